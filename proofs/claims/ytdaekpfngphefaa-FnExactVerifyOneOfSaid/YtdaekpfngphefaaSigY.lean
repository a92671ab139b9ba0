/- Sigma proofs, one of several statements: the reference's sAll; the program's VerifyOneOf. -/
import Derived.Test.YtdaekpfngphefaaSigW
import Derived.IntWalk
namespace Go.Proofs.Ytdaekpfngphefaa
open Go.RowKit
set_option linter.unusedVariables false
set_option linter.unusedSimpArgs false

theorem choB_eq {P Q : Int} {l : List Int} {n : Nat} (h : l.length = n * 4) : choB P Q l = (allEl P Q l && inB (n : Int) 1 8) := by
  have h1 : decide (4 ≤ l.length ∧ l.length ≤ 32) = inB (n : Int) 1 8 := by
    rw [Bool.eq_iff_iff, decide_eq_true_eq, inB_true]; omega
  rw [choB, h1, Bool.and_comm]
theorem allEl_four {P Q p q r s : Int} {rest : List Int} : allEl P Q (p :: q :: r :: s :: rest) = (allEl P Q [p, q, r, s] && allEl P Q rest) := by
  simp [allEl, Bool.and_assoc]
set_option maxRecDepth 100000 in
set_option maxHeartbeats 3200000 in
theorem sAll_any (P Q G : Int) (hm : Mo P Q) {B : Nat} {u : Value} {l : List Int} {w : World} (hz : InE B w u l) (hl : l.length ≤ 17592186044416) :
    Calls Try.prog 68 #[gv P Q G, u] w (EqOut (.bool (choB P Q l)) w) := by
  obtain ⟨ad, n, cap, rfl, hn, hi, _⟩ := hz.shape
  have HN := Lib.hid hn
  have hnl : n ≤ 17592186044416 := by omega
  have hB := ba w (.cells #[.int .i64 P, .int .i64 Q, .int .i64 G] 32)
  have HB_0 := Lib.hid hB
  have G_0 := Lib.hid (gr_new w P Q G 32)
  have HI := Lib.hid (hi.below hB (Nat.le_refl _))
  obtain ⟨r, hr⟩ : ∃ r, choB P Q l = r := ⟨_, rfl⟩
  have HR := Lib.hid (show r = (allEl P Q l && inB (n : Int) 1 8) from hr ▸ choB_eq hn)
  rw [hr]
  clear hn hi hz hB hr hl
  obtain ⟨g0, g1, g2⟩ := G_0.out
  go_enter Try.func68, Try.ntmps68
  go_wp2_with fail
  generalize hW : w.alloc (.cells #[.int .i64 P, .int .i64 Q, .int .i64 G] 32) = W at *
  clear g0 g1 g2
  go_loopw [6, 9] (fun _ K wr => ∃ k : Nat, k ≤ n ∧ K = .int .i64 k ∧ r = (allEl P Q (l.drop (k * 4)) && inB (n : Int) 1 8) ∧ Below W.heap.size W wr) (fun _ K _ => n - (intOf K).toNat)
  case atStart => exact ⟨0, Nat.zero_le _, rfl, HR.out, Below.refl _ _⟩
  case round =>
    obtain ⟨k, hk, rfl, hrk, hbel⟩ := hrel
    have HRK := Lib.hid hrk
    have HB := Lib.hid hbel
    have G_1 := Lib.hid (G_0.out.below hbel)
    clear hrk hbel
    by_cases hkn : k < n
    · obtain ⟨b, off, x, y, z, t, rfl, hb, hc1, hc2, hc3, hc4, hd⟩ := ints_quad (HI.out.below HB.out (Nat.le_refl _)) hkn HN.out
      have hst : r = (allEl P Q [x, y, z, t] && (allEl P Q (l.drop ((k + 1) * 4)) && inB (n : Int) 1 8)) := by
        rw [HRK.out, hd, allEl_four, Bool.and_assoc]
      have HST := Lib.hid hst
      clear hst hd
      have G_2 := Lib.hid (G_1.out.below (ba wr (.cells #[.int .i64 x, .int .i64 y, .int .i64 z, .int .i64 t] 47)))
      have HB2 := Lib.hid (bt HB.out (ba wr (.cells #[.int .i64 x, .int .i64 y, .int .i64 z, .int .i64 t] 47)))
      obtain ⟨g0, g1, g2⟩ := G_2.out
      cases h4 : allEl P Q [x, y, z, t]
      · obtain rfl : r = false := HST.out.trans (by rw [h4]; rfl)
        have H4 := Lib.hid h4
        clear h4
        go_wp2_with fail
        refine (sElements_any P Q G x y z t hm _).mono ?_
        rw [H4.out]
        rintro e w3 ⟨rfl, hb3⟩
        have HB3 := Lib.hid (bt HB_0.out (bt HB2.out hb3))
        clear hb3
        go_wp2
        go_ret
        exact ⟨rfl, HB3.out⟩
      · have HN4 := Lib.hid (HST.out.trans (by rw [h4, Bool.true_and]))
        have H4 := Lib.hid h4
        clear h4
        go_wp2_with fail
        refine (sElements_any P Q G x y z t hm _).mono ?_
        rw [H4.out]
        rintro e w3 ⟨rfl, hb3⟩
        have HB3 := Lib.hid (bt HB2.out hb3)
        clear hb3 g0 g1 g2
        go_wp2_with fail
        go_roundw
        case rel => exact ⟨k + 1, by omega, by go_num, HN4.out, HB3.out⟩
        case measure => simp only [intOf]; omega
    · obtain rfl : k = n := by omega
      obtain rfl : r = inB (k : Int) 1 8 := by
        rw [HRK.out, List.drop_of_length_le (by have := HN.out; omega)]; rfl
      have HBF := Lib.hid (bt HB_0.out HB.out)
      go_wp2_with fail
      refine (l1In_any _ 1 8 _).mono ?_
      rintro e w3 ⟨rfl, rfl⟩
      go_wp2
      go_ret
      exact ⟨rfl, HBF.out⟩

set_option maxRecDepth 100000 in
set_option maxHeartbeats 3200000 in
theorem verifyOneOf_any (P Q G : Int) (s : ByteArray) (hs : s.size ≤ 1048576) {B1 : Nat} {u1 : Value} {es : List Int} (hl : es.length ≤ 17592186044416) {B : Nat} {v : Value} {p : PrD} (hpn : p.n ≤ 1048576) {w : World} (hu1 : InE B1 w u1 es) (hP : InP B w v p) :
    Calls Try.prog 34 #[gv P Q G, .string s, u1, v] w (EqOut (.tuple #[.bool (vrV P Q G s (St.cho es) p), .bool (vrB P Q G s (St.cho es))]) w) := by
  obtain ⟨y1, yn, y2, rfl, _, _, _⟩ := hu1.shape
  obtain ⟨a1, c1, a2, c2, a3, c3, rfl, _, _, _⟩ := hP.parts
  have hal := ba (w.alloc (.cells #[.int .i64 P, .int .i64 Q, .int .i64 G] 32)) (.cells #[.slice a1 p.c.length c1, .slice a2 p.h.length c2, .slice a3 p.r.length c3] 36)
  have HB_0 := Lib.hid (bt (ba w (.cells #[.int .i64 P, .int .i64 Q, .int .i64 G] 32)) hal)
  have G_0 := Lib.hid (GR.below (gr_new w P Q G 32) hal)
  have hv := b3_new (w.alloc (.cells #[.int .i64 P, .int .i64 Q, .int .i64 G] 32)) (.slice a1 p.c.length c1) (.slice a2 p.h.length c2) (.slice a3 p.r.length c3) 36
  rw [show (w.alloc (.cells #[.int .i64 P, .int .i64 Q, .int .i64 G] 32)).heap.size = w.heap.size + 1 by simp] at hv
  have V_0 := Lib.hid hv
  have P_0 := Lib.hid (hP.below HB_0.out)
  have M_0 := Lib.hid (hu1.below HB_0.out)
  clear hal hv hP hu1
  obtain ⟨gG0, gG1, gG2⟩ := G_0.out
  obtain ⟨bV0, bV1, bV2, _⟩ := V_0.out
  go_enter Try.func34, Try.ntmps34
  go_wp2_with fail
  refine (verifyCho_any P Q G s hs hl hpn M_0.out P_0.out).mono ?_
  rintro e v9 ⟨rfl, hb⟩
  have HB_9 := Lib.hid (bt HB_0.out hb)
  clear hb
  go_wp2
  go_ret2
  exact ⟨rfl, HB_9.out⟩

set_option maxRecDepth 100000 in
set_option maxHeartbeats 3200000 in
theorem sJoint_any (P Q G : Int) (hg : goodB P Q G = true) (s : ByteArray) (hs : s.size ≤ 1000000) {B C : Nat} {u t : Value} {l cm : List Int} {w : World} (hl : l.length ≤ 32) (hle : allEl P Q l = true) (hcl : cm.length ≤ 1048576) (hce : allEl P Q cm = true) (hz : InE B w u l) (hc : InI C w t cm) :
    Calls Try.prog 103 #[gv P Q G, .string s, u, t] w (EqOut (.int .i64 (chX P Q G s (l ++ cm))) w) := by
  obtain ⟨ad, n, cap, rfl, hn, hi, _⟩ := hz.shape
  obtain ⟨b2, d2, rfl⟩ := hc.shape
  obtain ⟨i0, hi0, hz0, hz1, hz2⟩ := info_parts Try.info3
  have hgr := good_rng hg
  have hP0 := hgr.1
  have hQ2 := hgr.2.1
  have hG0 := hgr.2.2
  have HN := Lib.hid hn
  have hnl : n ≤ 8 := by omega
  have hB := ba w (.cells #[.int .i64 P, .int .i64 Q, .int .i64 G] 32)
  have HB_0 := Lib.hid hB
  have G_0 := Lib.hid (gr_new w P Q G 32)
  have HI := Lib.hid (hi.below hB (Nat.le_refl _))
  have HDIG := Lib.hid (show ∀ z ∈ l ++ cm, 0 ≤ z ∧ z ≤ 4611686018427387903 from by
    intro z hz
    have h9 : 0 ≤ z ∧ z < P := by
      rcases List.mem_append.1 hz with h | h
      · exact all_rng hle z h
      · exact all_rng hce z h
    exact ⟨h9.1, by omega⟩)
  obtain ⟨ch, hchx⟩ : ∃ ch, chX P Q G s (l ++ cm) = ch := ⟨_, rfl⟩
  have HCHX := Lib.hid hchx
  rw [hchx]
  generalize hnc : cm.length = nc at hcl hc ⊢
  have HNC := Lib.hid hnc
  have C_0 := Lib.hid (hc.below hB)
  clear hn hi hz hB hchx hc hnc hl hle hce hgr
  obtain ⟨g0, g1, g2⟩ := G_0.out
  go_enter Try.func103, Try.ntmps103
  go_wp2_with fail
  generalize hW : w.alloc (.cells #[.int .i64 P, .int .i64 Q, .int .i64 G] 32) = W at *
  clear g0 g1 g2 hW
  go_loopw [9, 14] (fun V K wr => ∃ (k : Nat) (va : Option Addr) (vc : Nat), k ≤ n ∧ K = .int .i64 k ∧ V = .slice va (k * 4) vc ∧ wr.ownsRow W.heap.size 3 1 (.slice va (k * 4) vc) (k * 4) ((l.take (k * 4)).map (Value.int .i64)) ∧ Below W.heap.size W wr) (fun _ K _ => n - (intOf K).toNat)
  case atStart => exact ⟨0, none, 0, Nat.zero_le _, rfl, rfl, by simpa using World.ownsRow_nil _ _ _ _, Below.refl _ _⟩
  case round =>
    obtain ⟨k, va, vc, hk, rfl, rfl, hown, hbel⟩ := hrel
    have HO := Lib.hid hown
    have HB := Lib.hid hbel
    clear hown hbel
    by_cases hkn : k < n
    · obtain ⟨b, off, x, y, z, r, rfl, hb, hc1, hc2, hc3, hc4, hd⟩ := ints_quad (HI.out.below HB.out (Nat.le_refl _)) hkn HN.out
      have ht : l.take ((k + 1) * 4) = l.take (k * 4) ++ [x, y, z, r] := by
        rw [show (k + 1) * 4 = k * 4 + 4 by omega, List.take_add, hd]; rfl
      have HT := Lib.hid ht
      clear ht hd
      obtain ⟨W1, hW1⟩ : ∃ W1, W1 = wr.alloc (.cells #[.int .i64 x, .int .i64 y, .int .i64 z, .int .i64 r] 47) := ⟨_, rfl⟩
      have hb1 : Below wr.heap.size wr W1 := by rw [hW1]; exact ba wr _
      have hb2 : Below wr.heap.size wr (W1.alloc (.cells #[.int .i64 x, .int .i64 y, .int .i64 z, .int .i64 r] 3)) := bt hb1 (ba W1 _)
      have HO2 := Lib.hid (own_below HO.out hb2)
      have HB2 := Lib.hid (HB.out.trans (hb2.mono HB.out.size))
      have hv := v4_new wr x y z r 47
      rw [← hW1] at hv
      obtain ⟨e0, e1, e2, e3⟩ := hv
      have hsz : wr.heap.size + 1 = W1.heap.size := by rw [hW1]; simp
      have HSZ := Lib.hid hsz
      clear hb1 hb2 hsz
      have hW1' := hW1.symm
      clear hW1
      go_wp2_with (at_builtin; refine wpList_append_ints rfl _ _ 25 rfl W.heap.size 3 i0 Try.underlying25 hi0 hz0 hz1 hz2 _ (k * 4) (l.take (k * 4)) rfl HO2.out _ 4 4 [x, y, z, r] rfl rfl (ints_spot W1 _ rfl [x, y, z, r] 3) (fun h => by cases h) (by omega) HB2.out.size ?_)
      intro v' w3 hown3 hgrow
      obtain ⟨va', vc', rfl⟩ := own_shape hown3
      have HO3 := Lib.hid (show w3.ownsRow W.heap.size 3 1 (.slice va' ((k + 1) * 4) vc') ((k + 1) * 4) ((l.take ((k + 1) * 4)).map (Value.int .i64)) from by
        rw [HT.out, show (k + 1) * 4 = k * 4 + 4 by omega]; first | exact hown3 | simpa using hown3)
      have HB3 := Lib.hid (HB2.out.grown hgrow HB2.out.size (fun q hq => (HO2.out.lt q hq).1))
      clear hown3 hgrow hW1' e0 e1 e2 e3
      go_wp2_with fail
      go_roundw
      case rel => exact ⟨k + 1, va', vc', by omega, by go_num, by rw [show (k + 1) * 4 = k * 4 + 4 by omega], HO3.out, HB3.out⟩
      case measure => simp only [intOf]; omega
    · obtain rfl : k = n := by omega
      have h := HO.out
      rw [List.take_of_length_le (by have := HN.out; omega)] at h
      have HO1 := Lib.hid (show wr.drew.ownsRow W.heap.size 3 1 (.slice va (k * 4) vc) (k * 4) (l.map (Value.int .i64)) from h)
      clear h
      have C_1 := Lib.hid (C_0.out.below (bt HB.out (Below.refl _ wr).drew))
      have HBD := Lib.hid (bt HB.out (Below.refl _ wr).drew)
      have hsz := HBD.out.size
      have G_1 := Lib.hid (G_0.out.below HB.out)
      obtain ⟨g0, g1, g2⟩ := G_1.out
      go_wp2_with fail
      go_region_held3 (fun w' => w'.cell? ⟨w.heap.size, 0, none⟩ = some (.int .i64 P) ∧ w'.cell? ⟨w.heap.size, 1, none⟩ = some (.int .i64 Q) ∧ w'.cell? ⟨w.heap.size, 2, none⟩ = some (.int .i64 G)) (first | with_reducible exact ⟨x0, x1, x2⟩ | with_reducible exact ⟨y0, y1, y2⟩ | exact ⟨g0, g1, g2⟩) ((first
        | (go_at_call 95; refine (hChallenge_any P Q G hP0 hQ2 hG0 s hs _ _ _ (l ++ cm) HII.out.2.1 (by omega) HII.out.2.2.1 HDIG.out _ HII.out.1).mono ?_; rw [HCHX.out]; rintro e v4 ⟨rfl, hb⟩; have HB4 := Lib.hid (bt HB3.out hb); obtain ⟨y0, y1, y2⟩ := G_3.out.below hb; clear hb)
        | (refine step_append_ints (by rfl) _ _ _ (by rfl) W.heap.size 3 i0 Try.underlying25 hi0 hz0 hz1 hz2 _ (k * 4) l (by rfl) HO1.out b2 nc d2 cm (by rfl) HNC.out (C_1.out.ints).1 (C_1.out.ints).2.2.1 (by omega) hsz ?_; intro v' w3 hown hgrow; obtain ⟨va', vc', rfl⟩ := own_shape hown; have HB3 := Lib.hid (HBD.out.grown hgrow hsz (fun q hq => (HO1.out.lt q hq).1)); have HII := Lib.hid ((owI_mk hown HB3.out.size).toIn.ints); have G_3 := Lib.hid (G_0.out.below HB3.out); obtain ⟨x0, x1, x2⟩ := G_3.out; clear hown hgrow)
        | fail))
      all_goals (
        go_wp2
        go_ret
        exact ⟨rfl, bt HB_0.out HB4.out⟩)

end Go.Proofs.Ytdaekpfngphefaa

/- Sigma proofs: the reference's check of a proof for one of several statements. -/
namespace Go.Proofs.Ytdaekpfngphefaa
open Go.RowKit
set_option linter.unusedVariables false
set_option linter.unusedSimpArgs false

theorem quadOk_step {P : Int} {l cm h r : List Int} {k : Nat} {a b c d x y e z : Int} (h1 : l.drop (k * 4) = a :: b :: c :: d :: l.drop ((k + 1) * 4)) (h2 : cm.drop (2 * k) = x :: cm.drop (2 * k + 1)) (h2' : cm.drop (2 * k + 1) = y :: cm.drop (2 * k + 1 + 1)) (h3 : h.drop k = e :: h.drop (k + 1)) (h4 : r.drop k = z :: r.drop (k + 1)) :
    quadOk P (l.drop (k * 4)) (cm.drop (2 * k)) (h.drop k) (r.drop k) = (decide (Num.pow a z P = mulFrom P 1 [x, Num.pow b e P]) && (decide (Num.pow c z P = mulFrom P 1 [y, Num.pow d e P]) && quadOk P (l.drop ((k + 1) * 4)) (cm.drop (2 * (k + 1))) (h.drop (k + 1)) (r.drop (k + 1)))) := by
  rw [h1, h2, h2', h3, h4, show 2 * (k + 1) = 2 * k + 1 + 1 by omega]; rfl
theorem quadOk_end {P : Int} {l cm h r : List Int} {k : Nat} (hl : l.length ≤ k * 4) : quadOk P (l.drop (k * 4)) cm h r = true := by
  rw [List.drop_of_length_le hl]; unfold quadOk; rfl

set_option maxRecDepth 100000 in
set_option maxHeartbeats 25600000 in
theorem sVerifyOne_any (P Q G : Int) (hg : goodB P Q G = true) (s : ByteArray) (hs : s.size ≤ 1000000) {B1 B : Nat} {u1 v : Value} {l : List Int} {p : PrD} (hcb : choB P Q l = true) (hpn : p.n ≤ 1048576) {w : World} (hu1 : InE B1 w u1 l) (hP : InP B w v p) :
    Calls Try.prog 69 #[gv P Q G, .string s, u1, v] w (EqOut (.bool (svoV P Q G s l p)) w) := by
  obtain ⟨y1, n, y2, rfl, hn, hii, _⟩ := hu1.shape
  have MI := Lib.hid hii
  clear hii
  obtain ⟨a1, c1, a2, c2, a3, c3, rfl, q1, q2, q3⟩ := hP.parts
  have hmo := good_mo hg
  have hgr := good_rng hg
  have hQQ : 0 ≤ Q ∧ Q ≤ 2000000000 := hmo.2
  obtain ⟨hl1b, hl2b, hl3b⟩ : p.c.length ≤ 1152921504606846976 ∧ p.h.length ≤ 1152921504606846976 ∧ p.r.length ≤ 1152921504606846976 := by unfold PrD.n at hpn; omega
  have hlc : p.c.length ≤ 1048576 := by unfold PrD.n at hpn; omega
  simp only [choB, Bool.and_eq_true, decide_eq_true_eq] at hcb
  obtain ⟨hl32, hle⟩ := hcb
  have hn8 : 1 ≤ n ∧ n ≤ 8 := by omega
  have HDIV := Lib.hid (show l.length / 4 = n by omega)
  have hal := ba (w.alloc (.cells #[.int .i64 P, .int .i64 Q, .int .i64 G] 32)) (.cells #[.slice a1 p.c.length c1, .slice a2 p.h.length c2, .slice a3 p.r.length c3] 36)
  have HB_0 := Lib.hid (bt (ba w (.cells #[.int .i64 P, .int .i64 Q, .int .i64 G] 32)) hal)
  have G_0 := Lib.hid (GR.below (gr_new w P Q G 32) hal)
  have hv := b3_new (w.alloc (.cells #[.int .i64 P, .int .i64 Q, .int .i64 G] 32)) (.slice a1 p.c.length c1) (.slice a2 p.h.length c2) (.slice a3 p.r.length c3) 36
  rw [show (w.alloc (.cells #[.int .i64 P, .int .i64 Q, .int .i64 G] 32)).heap.size = w.heap.size + 1 by simp] at hv
  have V_0 := Lib.hid hv
  have M_0 := Lib.hid (hu1.below HB_0.out)
  have C_0 := Lib.hid (q1.below HB_0.out)
  have H_0 := Lib.hid (q2.below HB_0.out)
  have R_0 := Lib.hid (q3.below HB_0.out)
  obtain ⟨r, hr⟩ : ∃ r, svoV P Q G s l p = r := ⟨_, rfl⟩
  rw [hr]
  have HR := Lib.hid hr
  have HN := Lib.hid hn
  have HLE := Lib.hid hle
  have hw2n : IntKind.i64.wrap (2 * (n : Int)) = 2 * (n : Int) := IntWalk.i64_in _ (by omega)
  clear hal hv q1 q2 q3 hP hu1 hr hpn hn hl32
  by_cases h0 : ¬ (p.c.length = 2 * n)
  · have B0 : ((p.c.length : Int) != 2 * (n : Int)) = true := by simp; omega
    obtain rfl : r = false := HR.out.symm.trans (by simp only [svoV]; simp [HDIV.out, h0])
    clear h0
    obtain ⟨gG0, gG1, gG2⟩ := G_0.out
    obtain ⟨bV0, bV1, bV2, _⟩ := V_0.out
    go_enter Try.func69, Try.ntmps69
    go_wp2
    go_ret
    exact ⟨rfl, HB_0.out⟩
  have h0 := Decidable.not_not.1 h0
  have B0 : ((p.c.length : Int) != 2 * (n : Int)) = false := by simp; omega
  by_cases h1 : ¬ (p.h.length = n)
  · have B1 : ((p.h.length : Int) != (n : Int)) = true := by simp; omega
    obtain rfl : r = false := HR.out.symm.trans (by simp only [svoV]; simp [HDIV.out, h1])
    clear h0 h1
    obtain ⟨gG0, gG1, gG2⟩ := G_0.out
    obtain ⟨bV0, bV1, bV2, _⟩ := V_0.out
    go_enter Try.func69, Try.ntmps69
    go_wp2
    go_ret
    exact ⟨rfl, HB_0.out⟩
  have h1 := Decidable.not_not.1 h1
  have B1 : ((p.h.length : Int) != (n : Int)) = false := by simp; omega
  by_cases h2 : ¬ (p.r.length = n)
  · have B2 : ((p.r.length : Int) != (n : Int)) = true := by simp; omega
    obtain rfl : r = false := HR.out.symm.trans (by simp only [svoV]; simp [HDIV.out, h2])
    clear h0 h1 h2
    obtain ⟨gG0, gG1, gG2⟩ := G_0.out
    obtain ⟨bV0, bV1, bV2, _⟩ := V_0.out
    go_enter Try.func69, Try.ntmps69
    go_wp2
    go_ret
    exact ⟨rfl, HB_0.out⟩
  have h2 := Decidable.not_not.1 h2
  have B2 : ((p.r.length : Int) != (n : Int)) = false := by simp; omega
  cases h3 : allEl P Q p.c
  · have K3 := Lib.hid (show allEl P Q p.c = false from h3)
    obtain rfl : r = false := HR.out.symm.trans (by simp only [svoV]; simp [HDIV.out, h3])
    clear h0 h1 h2 h3
    obtain ⟨gG0, gG1, gG2⟩ := G_0.out
    obtain ⟨bV0, bV1, bV2, _⟩ := V_0.out
    go_enter Try.func69, Try.ntmps69
    go_wp2_with fail
    refine (gIs_any P Q G hmo _ _ _ p.c rfl hl1b _ (C_0.out.ints).1).mono ?_
    rw [K3.out]
    rintro e v1 ⟨rfl, hb⟩
    have HB_1 := Lib.hid (bt HB_0.out hb)
    have G_1 := Lib.hid (G_0.out.below hb)
    have V_1 := Lib.hid (V_0.out.below hb)
    have M_1 := Lib.hid (M_0.out.below hb)
    have C_1 := Lib.hid (C_0.out.below hb)
    have H_1 := Lib.hid (H_0.out.below hb)
    have R_1 := Lib.hid (R_0.out.below hb)
    clear hb gG0 gG1 gG2 bV0 bV1 bV2
    obtain ⟨gG0, gG1, gG2⟩ := G_1.out
    obtain ⟨bV0, bV1, bV2, _⟩ := V_1.out
    go_wp2
    go_ret
    exact ⟨rfl, HB_1.out⟩
  have K3 := Lib.hid (show allEl P Q p.c = true from h3)
  cases h4 : allIn p.h 0 (Q - 1)
  · have K4 := Lib.hid (show allIn p.h 0 (Q - 1) = false from h4)
    obtain rfl : r = false := HR.out.symm.trans (by simp only [svoV]; simp [HDIV.out, h4])
    clear h0 h1 h2 h3 h4
    obtain ⟨gG0, gG1, gG2⟩ := G_0.out
    obtain ⟨bV0, bV1, bV2, _⟩ := V_0.out
    go_enter Try.func69, Try.ntmps69
    go_wp2_with fail
    refine (gIs_any P Q G hmo _ _ _ p.c rfl hl1b _ (C_0.out.ints).1).mono ?_
    rw [K3.out]
    rintro e v1 ⟨rfl, hb⟩
    have HB_1 := Lib.hid (bt HB_0.out hb)
    have G_1 := Lib.hid (G_0.out.below hb)
    have V_1 := Lib.hid (V_0.out.below hb)
    have M_1 := Lib.hid (M_0.out.below hb)
    have C_1 := Lib.hid (C_0.out.below hb)
    have H_1 := Lib.hid (H_0.out.below hb)
    have R_1 := Lib.hid (R_0.out.below hb)
    clear hb gG0 gG1 gG2 bV0 bV1 bV2
    obtain ⟨gG0, gG1, gG2⟩ := G_1.out
    obtain ⟨bV0, bV1, bV2, _⟩ := V_1.out
    go_wp2_with fail
    refine (gExps_any P Q G hQQ _ _ _ p.h rfl hl2b _ (H_1.out.ints).1).mono ?_
    rw [K4.out]
    rintro e v2 ⟨rfl, hb⟩
    have HB_2 := Lib.hid (bt HB_1.out hb)
    have G_2 := Lib.hid (G_1.out.below hb)
    have V_2 := Lib.hid (V_1.out.below hb)
    have M_2 := Lib.hid (M_1.out.below hb)
    have C_2 := Lib.hid (C_1.out.below hb)
    have H_2 := Lib.hid (H_1.out.below hb)
    have R_2 := Lib.hid (R_1.out.below hb)
    clear hb gG0 gG1 gG2 bV0 bV1 bV2
    obtain ⟨gG0, gG1, gG2⟩ := G_2.out
    obtain ⟨bV0, bV1, bV2, _⟩ := V_2.out
    go_wp2
    go_ret
    exact ⟨rfl, HB_2.out⟩
  have K4 := Lib.hid (show allIn p.h 0 (Q - 1) = true from h4)
  cases h5 : allIn p.r 0 (Q - 1)
  · have K5 := Lib.hid (show allIn p.r 0 (Q - 1) = false from h5)
    obtain rfl : r = false := HR.out.symm.trans (by simp only [svoV]; simp [HDIV.out, h5])
    clear h0 h1 h2 h3 h4 h5
    obtain ⟨gG0, gG1, gG2⟩ := G_0.out
    obtain ⟨bV0, bV1, bV2, _⟩ := V_0.out
    go_enter Try.func69, Try.ntmps69
    go_wp2_with fail
    refine (gIs_any P Q G hmo _ _ _ p.c rfl hl1b _ (C_0.out.ints).1).mono ?_
    rw [K3.out]
    rintro e v1 ⟨rfl, hb⟩
    have HB_1 := Lib.hid (bt HB_0.out hb)
    have G_1 := Lib.hid (G_0.out.below hb)
    have V_1 := Lib.hid (V_0.out.below hb)
    have M_1 := Lib.hid (M_0.out.below hb)
    have C_1 := Lib.hid (C_0.out.below hb)
    have H_1 := Lib.hid (H_0.out.below hb)
    have R_1 := Lib.hid (R_0.out.below hb)
    clear hb gG0 gG1 gG2 bV0 bV1 bV2
    obtain ⟨gG0, gG1, gG2⟩ := G_1.out
    obtain ⟨bV0, bV1, bV2, _⟩ := V_1.out
    go_wp2_with fail
    refine (gExps_any P Q G hQQ _ _ _ p.h rfl hl2b _ (H_1.out.ints).1).mono ?_
    rw [K4.out]
    rintro e v2 ⟨rfl, hb⟩
    have HB_2 := Lib.hid (bt HB_1.out hb)
    have G_2 := Lib.hid (G_1.out.below hb)
    have V_2 := Lib.hid (V_1.out.below hb)
    have M_2 := Lib.hid (M_1.out.below hb)
    have C_2 := Lib.hid (C_1.out.below hb)
    have H_2 := Lib.hid (H_1.out.below hb)
    have R_2 := Lib.hid (R_1.out.below hb)
    clear hb gG0 gG1 gG2 bV0 bV1 bV2
    obtain ⟨gG0, gG1, gG2⟩ := G_2.out
    obtain ⟨bV0, bV1, bV2, _⟩ := V_2.out
    go_wp2_with fail
    refine (gExps_any P Q G hQQ _ _ _ p.r rfl hl3b _ (R_2.out.ints).1).mono ?_
    rw [K5.out]
    rintro e v3 ⟨rfl, hb⟩
    have HB_3 := Lib.hid (bt HB_2.out hb)
    have G_3 := Lib.hid (G_2.out.below hb)
    have V_3 := Lib.hid (V_2.out.below hb)
    have M_3 := Lib.hid (M_2.out.below hb)
    have C_3 := Lib.hid (C_2.out.below hb)
    have H_3 := Lib.hid (H_2.out.below hb)
    have R_3 := Lib.hid (R_2.out.below hb)
    clear hb gG0 gG1 gG2 bV0 bV1 bV2
    obtain ⟨gG0, gG1, gG2⟩ := G_3.out
    obtain ⟨bV0, bV1, bV2, _⟩ := V_3.out
    go_wp2
    go_ret
    exact ⟨rfl, HB_3.out⟩
  have K5 := Lib.hid (show allIn p.r 0 (Q - 1) = true from h5)
  have HE0 := Lib.hid h0
  have HE1 := Lib.hid h1
  have HE2 := Lib.hid h2
  have hPP := hmo.1
  have hQ2 := hgr.2.1
  obtain ⟨bh, oh, _, ha2, _, _, _⟩ := (H_0.out.ints).1.at (k := 0) (by omega)
  obtain ⟨bc, oc, _, ha1, _, _, _⟩ := (C_0.out.ints).1.at (k := 0) (by omega)
  obtain ⟨br, or, _, ha3, _, _, _⟩ := (R_0.out.ints).1.at (k := 0) (by omega)
  subst ha1 ha2 ha3
  have HXE := Lib.hid (show ∀ z ∈ p.c, 0 ≤ z ∧ z < P from all_rng h3)
  have HHE := Lib.hid (exps_iff h4)
  have HRE := Lib.hid (exps_iff h5)
  have HLR := Lib.hid (show ∀ z ∈ l, 0 ≤ z ∧ z < P from all_rng HLE.out)
  have HCE := Lib.hid h3
  obtain ⟨ch, hchx⟩ : ∃ ch, chX P Q G s (l ++ p.c) = ch := ⟨_, rfl⟩
  obtain ⟨sm, hsm⟩ : ∃ sm, sumFrom Q 0 p.h = sm := ⟨_, rfl⟩
  have HCHX := Lib.hid hchx
  have HSM := Lib.hid hsm
  have HR5 := Lib.hid (show r = (decide (sm = ch) && quadOk P l p.c p.h p.r) from by
    rw [← HR.out]; simp only [svoV]; simp only [HDIV.out, h0, h1, h2, h3, h4, h5, hchx, hsm, decide_true, Bool.true_and])
  have HL32 := Lib.hid (show l.length ≤ 32 from by have := HN.out; omega)
  clear h0 h1 h2 h3 h4 h5 hchx hsm HR
  obtain ⟨gG0, gG1, gG2⟩ := G_0.out
  obtain ⟨bV0, bV1, bV2, _⟩ := V_0.out
  go_enter Try.func69, Try.ntmps69
  go_wp2_with fail
  refine (gIs_any P Q G hmo _ _ _ p.c rfl hl1b _ (C_0.out.ints).1).mono ?_
  rw [K3.out]
  rintro e v1 ⟨rfl, hb⟩
  have HB_1 := Lib.hid (bt HB_0.out hb)
  have G_1 := Lib.hid (G_0.out.below hb)
  have V_1 := Lib.hid (V_0.out.below hb)
  have M_1 := Lib.hid (M_0.out.below hb)
  have C_1 := Lib.hid (C_0.out.below hb)
  have H_1 := Lib.hid (H_0.out.below hb)
  have R_1 := Lib.hid (R_0.out.below hb)
  clear hb gG0 gG1 gG2 bV0 bV1 bV2
  obtain ⟨gG0, gG1, gG2⟩ := G_1.out
  obtain ⟨bV0, bV1, bV2, _⟩ := V_1.out
  go_wp2_with fail
  refine (gExps_any P Q G hQQ _ _ _ p.h rfl hl2b _ (H_1.out.ints).1).mono ?_
  rw [K4.out]
  rintro e v2 ⟨rfl, hb⟩
  have HB_2 := Lib.hid (bt HB_1.out hb)
  have G_2 := Lib.hid (G_1.out.below hb)
  have V_2 := Lib.hid (V_1.out.below hb)
  have M_2 := Lib.hid (M_1.out.below hb)
  have C_2 := Lib.hid (C_1.out.below hb)
  have H_2 := Lib.hid (H_1.out.below hb)
  have R_2 := Lib.hid (R_1.out.below hb)
  clear hb gG0 gG1 gG2 bV0 bV1 bV2
  obtain ⟨gG0, gG1, gG2⟩ := G_2.out
  obtain ⟨bV0, bV1, bV2, _⟩ := V_2.out
  go_wp2_with fail
  refine (gExps_any P Q G hQQ _ _ _ p.r rfl hl3b _ (R_2.out.ints).1).mono ?_
  rw [K5.out]
  rintro e v3 ⟨rfl, hb⟩
  have HB_3 := Lib.hid (bt HB_2.out hb)
  have G_3 := Lib.hid (G_2.out.below hb)
  have V_3 := Lib.hid (V_2.out.below hb)
  have M_3 := Lib.hid (M_2.out.below hb)
  have C_3 := Lib.hid (C_2.out.below hb)
  have H_3 := Lib.hid (H_2.out.below hb)
  have R_3 := Lib.hid (R_2.out.below hb)
  clear hb gG0 gG1 gG2 bV0 bV1 bV2
  obtain ⟨gG0, gG1, gG2⟩ := G_3.out
  obtain ⟨bV0, bV1, bV2, _⟩ := V_3.out
  go_wp2_with fail
  have HK3 := Lib.hid (show ∀ w', Below v3.heap.size v3 w' → ((w'.cell? ⟨w.heap.size, 0, none⟩ = some (.int .i64 P) ∧ w'.cell? ⟨w.heap.size, 1, none⟩ = some (.int .i64 Q) ∧ w'.cell? ⟨w.heap.size, 2, none⟩ = some (.int .i64 G)) ∧ (w'.cell? ⟨w.heap.size + 1, 0, none⟩ = some (.slice (some ⟨bc, oc, none⟩) p.c.length c1) ∧ w'.cell? ⟨w.heap.size + 1, 1, none⟩ = some (.slice (some ⟨bh, oh, none⟩) p.h.length c2) ∧ w'.cell? ⟨w.heap.size + 1, 2, none⟩ = some (.slice (some ⟨br, or, none⟩) p.r.length c3))) from fun w' hk => ⟨G_3.out.below hk, (V_3.out.below hk).1, (V_3.out.below hk).2.1, (V_3.out.below hk).2.2.1⟩)
  clear gG0 gG1 gG2 bV0 bV1 bV2
  by_cases hF : ¬ sm = ch
  · have iF : (sm != ch) = true := by simpa using hF
    obtain rfl : r = false := HR5.out.trans (by simp [hF])
    clear hF
    go_region_held3 (fun w' => (w'.cell? ⟨w.heap.size, 0, none⟩ = some (.int .i64 P) ∧ w'.cell? ⟨w.heap.size, 1, none⟩ = some (.int .i64 Q) ∧ w'.cell? ⟨w.heap.size, 2, none⟩ = some (.int .i64 G)) ∧ (w'.cell? ⟨w.heap.size + 1, 0, none⟩ = some (.slice (some ⟨bc, oc, none⟩) p.c.length c1) ∧ w'.cell? ⟨w.heap.size + 1, 1, none⟩ = some (.slice (some ⟨bh, oh, none⟩) p.h.length c2) ∧ w'.cell? ⟨w.heap.size + 1, 2, none⟩ = some (.slice (some ⟨br, or, none⟩) p.r.length c3))) (first | exact HK3.out _ (Below.refl _ v3).drew | exact HK3.out _ HB3.out) ((first
      | (go_at_call 102; refine (nSum_any _ _ _ p.h Q rfl hl2b hQ2.1 hQ2.2 HHE.out _ (H_3.out.below (Below.refl _ v3).drew).ints.1).mono ?_; rw [HSM.out]; rintro e w' ⟨rfl, rfl⟩)
      | (go_at_call 103; refine (sJoint_any P Q G hg s hs HL32.out HLE.out hlc HCE.out (M_3.out.below (Below.refl _ v3).drew) (C_3.out.below (Below.refl _ v3).drew)).mono ?_; rw [HCHX.out]; rintro e v9 ⟨rfl, hb⟩; have HB3 := Lib.hid (bt (Below.refl _ v3).drew hb); clear hb)
      | fail))
    all_goals (
      go_wp2
      go_ret
      exact ⟨rfl, bt HB_3.out HB3.out⟩)
  have hF := Decidable.not_not.1 hF
  have iF : (sm != ch) = false := by simpa using hF
  have HR6 := Lib.hid (show r = quadOk P l p.c p.h p.r from by rw [HR5.out, hF]; simp)
  clear hF HR5
  go_region_held3 (fun w' => (w'.cell? ⟨w.heap.size, 0, none⟩ = some (.int .i64 P) ∧ w'.cell? ⟨w.heap.size, 1, none⟩ = some (.int .i64 Q) ∧ w'.cell? ⟨w.heap.size, 2, none⟩ = some (.int .i64 G)) ∧ (w'.cell? ⟨w.heap.size + 1, 0, none⟩ = some (.slice (some ⟨bc, oc, none⟩) p.c.length c1) ∧ w'.cell? ⟨w.heap.size + 1, 1, none⟩ = some (.slice (some ⟨bh, oh, none⟩) p.h.length c2) ∧ w'.cell? ⟨w.heap.size + 1, 2, none⟩ = some (.slice (some ⟨br, or, none⟩) p.r.length c3))) (first | exact HK3.out _ (Below.refl _ v3).drew | exact HK3.out _ HB3.out) ((first
    | (go_at_call 102; refine (nSum_any _ _ _ p.h Q rfl hl2b hQ2.1 hQ2.2 HHE.out _ (H_3.out.below (Below.refl _ v3).drew).ints.1).mono ?_; rw [HSM.out]; rintro e w' ⟨rfl, rfl⟩)
    | (go_at_call 103; refine (sJoint_any P Q G hg s hs HL32.out HLE.out hlc HCE.out (M_3.out.below (Below.refl _ v3).drew) (C_3.out.below (Below.refl _ v3).drew)).mono ?_; rw [HCHX.out]; rintro e v9 ⟨rfl, hb⟩; have HB3 := Lib.hid (bt (Below.refl _ v3).drew hb); clear hb)
    | fail))
  go_wp2_with fail
  clear iF
  have HB_9 := Lib.hid (bt HB_3.out HB3.out)
  have C_9 := Lib.hid (C_3.out.below HB3.out)
  have H_9 := Lib.hid (H_3.out.below HB3.out)
  have R_9 := Lib.hid (R_3.out.below HB3.out)
  have HK9' := Lib.hid (show ∀ w', Below v9.heap.size v9 w' → ((w'.cell? ⟨w.heap.size, 0, none⟩ = some (.int .i64 P) ∧ w'.cell? ⟨w.heap.size, 1, none⟩ = some (.int .i64 Q) ∧ w'.cell? ⟨w.heap.size, 2, none⟩ = some (.int .i64 G)) ∧ (w'.cell? ⟨w.heap.size + 1, 0, none⟩ = some (.slice (some ⟨bc, oc, none⟩) p.c.length c1) ∧ w'.cell? ⟨w.heap.size + 1, 1, none⟩ = some (.slice (some ⟨bh, oh, none⟩) p.h.length c2) ∧ w'.cell? ⟨w.heap.size + 1, 2, none⟩ = some (.slice (some ⟨br, or, none⟩) p.r.length c3))) from fun w' hk => HK3.out w' (bt HB3.out hk))
  clear HK3 HB3 HB_3 HSM HCHX G_3 V_3 M_3 C_3 H_3 R_3
  go_loopw [9, 71] (fun _ K wr => ∃ k : Nat, k ≤ n ∧ K = .int .i64 k ∧ r = quadOk P (l.drop (k * 4)) (p.c.drop (2 * k)) (p.h.drop k) (p.r.drop k) ∧ Below v9.heap.size v9 wr) (fun _ K _ => n - (intOf K).toNat)
  case atStart => exact ⟨0, Nat.zero_le _, rfl, HR6.out, Below.refl _ _⟩
  case round =>
    obtain ⟨k, hk, rfl, hrk, hbel⟩ := hrel
    have HRK := Lib.hid hrk
    have HBK := Lib.hid hbel
    clear hrk hbel
    by_cases hkn : k < n
    · obtain ⟨b0, o0, a, b, c, d, rfl, _, hc1, hc2, hc3, hc4, hd⟩ := ints_quad (MI.out.below (bt HB_9.out HBK.out) (Nat.le_refl _)) hkn HN.out
      obtain ⟨b2, off2, x, hba, _, hcx, hdx⟩ := (C_9.out.below HBK.out).ints.1.at (k := 2 * k) (by have := HE0.out; omega)
      simp only [Option.some.injEq, Addr.mk.injEq, and_true] at hba
      obtain ⟨rfl, rfl⟩ := hba
      obtain ⟨b3, off3, y, hba, _, hcy, hdy⟩ := (C_9.out.below HBK.out).ints.1.at (k := 2 * k + 1) (by have := HE0.out; omega)
      simp only [Option.some.injEq, Addr.mk.injEq, and_true] at hba
      obtain ⟨rfl, rfl⟩ := hba
      obtain ⟨b4, off4, e, hba, _, hce, hde⟩ := (H_9.out.below HBK.out).ints.1.at (k := k) (by have := HE1.out; omega)
      simp only [Option.some.injEq, Addr.mk.injEq, and_true] at hba
      obtain ⟨rfl, rfl⟩ := hba
      obtain ⟨b5, off5, z, hba, _, hcz, hdz⟩ := (R_9.out.below HBK.out).ints.1.at (k := k) (by have := HE2.out; omega)
      simp only [Option.some.injEq, Addr.mk.injEq, and_true] at hba
      obtain ⟨rfl, rfl⟩ := hba
      have hxr := HXE.out x (List.mem_of_mem_drop (i := 2 * k) (by rw [hdx]; simp))
      have hyr := HXE.out y (List.mem_of_mem_drop (i := 2 * k + 1) (by rw [hdy]; simp))
      have her := HHE.out e (List.mem_of_mem_drop (i := k) (by rw [hde]; simp))
      have hzr := HRE.out z (List.mem_of_mem_drop (i := k) (by rw [hdz]; simp))
      have har' := HLR.out a (List.mem_of_mem_drop (i := k * 4) (by rw [hd]; simp))
      have hbr' := HLR.out b (List.mem_of_mem_drop (i := k * 4) (by rw [hd]; simp))
      have hcr' := HLR.out c (List.mem_of_mem_drop (i := k * 4) (by rw [hd]; simp))
      have hdr' := HLR.out d (List.mem_of_mem_drop (i := k * 4) (by rw [hd]; simp))
      have har : 0 ≤ a ∧ a ≤ 2000000000 := by omega
      have hbr : 0 ≤ b ∧ b ≤ 2000000000 := by omega
      have hcr : 0 ≤ c ∧ c ≤ 2000000000 := by omega
      have hdr : 0 ≤ d ∧ d ≤ 2000000000 := by omega
      have hqs := quadOk_step (P := P) hd hdx hdy hde hdz
      have ht1r := pow_lt b e P hPP.1
      have ht2r := pow_lt d e P hPP.1
      obtain ⟨t1, ht1⟩ : ∃ t, Num.pow b e P = t := ⟨_, rfl⟩
      obtain ⟨t2, ht2⟩ : ∃ t, Num.pow d e P = t := ⟨_, rfl⟩
      obtain ⟨p1, hp1⟩ : ∃ t, Num.pow a z P = t := ⟨_, rfl⟩
      obtain ⟨p2, hp2⟩ : ∃ t, Num.pow c z P = t := ⟨_, rfl⟩
      rw [ht1] at hqs ht1r
      rw [ht2] at hqs ht2r
      rw [hp1, hp2] at hqs
      obtain ⟨m1, hm1⟩ : ∃ t, mulFrom P 1 [x, t1] = t := ⟨_, rfl⟩
      obtain ⟨m2, hm2⟩ : ∃ t, mulFrom P 1 [y, t2] = t := ⟨_, rfl⟩
      rw [hm1, hm2] at hqs
      have T1 := Lib.hid ht1
      have T2 := Lib.hid ht2
      have P1 := Lib.hid hp1
      have P2 := Lib.hid hp2
      have M1 := Lib.hid hm1
      have M2 := Lib.hid hm2
      have HQS := Lib.hid (HRK.out.trans hqs)
      have two : ∀ u v : Int, (0 ≤ u ∧ u < P) → (0 ≤ v ∧ v < P) → ∀ z ∈ [u, v], 0 ≤ z ∧ z < P := by
        intro u v hu hv z hz
        rcases List.mem_cons.1 hz with rfl | hz
        · exact hu
        · rw [List.mem_singleton.1 hz]; exact hv
      have MR1 := Lib.hid (two x t1 hxr ht1r)
      have MR2 := Lib.hid (two y t2 hyr ht2r)
      have HX := Lib.hid hcx
      have HY := Lib.hid hcy
      have HEE := Lib.hid hce
      have HZZ := Lib.hid hcz
      have hkh : (k : Int) < (p.h.length : Int) := by have := HE1.out; omega
      have hkr : (k : Int) < (p.r.length : Int) := by have := HE2.out; omega
      have hk0 : (0 : Int) ≤ (k : Int) := by omega
      have hl1 : 2 * (k : Int) < (p.c.length : Int) := by have := HE0.out; omega
      have hl2 : 2 * (k : Int) + 1 < (p.c.length : Int) := by have := HE0.out; omega
      have hl0 : (0 : Int) ≤ 2 * (k : Int) := by omega
      have hl01 : (0 : Int) ≤ 2 * (k : Int) + 1 := by omega
      have hn1 : (2 * (k : Int)).toNat = 2 * k := by omega
      have hn2 : (2 * (k : Int) + 1).toNat = 2 * k + 1 := by omega
      have hw1 : IntKind.i64.wrap (2 * (k : Int)) = 2 * (k : Int) := IntWalk.i64_in _ (by omega)
      have hw2 : IntKind.i64.wrap (2 * (k : Int) + 1) = 2 * (k : Int) + 1 := IntWalk.i64_in _ (by omega)
      have HV4 := Lib.hid (v4_new wr a b c d 47)
      have hb0 : Below wr.heap.size wr (wr.alloc (.cells #[.int .i64 a, .int .i64 b, .int .i64 c, .int .i64 d] 47)) := ba wr _
      clear hd hdx hdy hde hdz har' hbr' hcr' hdr' hqs ht1 ht2 hp1 hp2 hm1 hm2 hcx hcy hce hcz two hxr hyr ht1r ht2r hw2n
      go_wp2_with fail
      generalize hU : wr.alloc (.cells #[.int .i64 a, .int .i64 b, .int .i64 c, .int .i64 d] 47) = U0 at *
      have HB0 := Lib.hid hb0
      have HK8 := Lib.hid (show ∀ w', Below U0.heap.size U0 w' → ((w'.cell? ⟨w.heap.size + 1, 0, none⟩ = some (.slice (some ⟨bc, oc, none⟩) p.c.length c1) ∧ w'.cell? ⟨w.heap.size + 1, 1, none⟩ = some (.slice (some ⟨bh, oh, none⟩) p.h.length c2) ∧ w'.cell? ⟨w.heap.size + 1, 2, none⟩ = some (.slice (some ⟨br, or, none⟩) p.r.length c3)) ∧ w'.cell? ⟨bh, oh + k, none⟩ = some (.int .i64 e) ∧ w'.cell? ⟨br, or + k, none⟩ = some (.int .i64 z)) from fun w' hk => ⟨(HK9'.out w' (bt HBK.out (bt HB0.out hk))).2, C1.below (v := .int .i64 e) HEE.out (bt HB0.out hk), C1.below (v := .int .i64 z) HZZ.out (bt HB0.out hk)⟩)
      have HK9 := Lib.hid (show ∀ w', Below U0.heap.size U0 w' → ((w'.cell? ⟨w.heap.size, 0, none⟩ = some (.int .i64 P) ∧ w'.cell? ⟨w.heap.size, 1, none⟩ = some (.int .i64 Q) ∧ w'.cell? ⟨w.heap.size, 2, none⟩ = some (.int .i64 G)) ∧ (w'.cell? ⟨w.heap.size + 1, 0, none⟩ = some (.slice (some ⟨bc, oc, none⟩) p.c.length c1) ∧ w'.cell? ⟨w.heap.size + 1, 1, none⟩ = some (.slice (some ⟨bh, oh, none⟩) p.h.length c2) ∧ w'.cell? ⟨w.heap.size + 1, 2, none⟩ = some (.slice (some ⟨br, or, none⟩) p.r.length c3)) ∧ (w'.cell? ⟨wr.heap.size, 0, none⟩ = some (.int .i64 a) ∧ w'.cell? ⟨wr.heap.size, 1, none⟩ = some (.int .i64 b) ∧ w'.cell? ⟨wr.heap.size, 2, none⟩ = some (.int .i64 c) ∧ w'.cell? ⟨wr.heap.size, 3, none⟩ = some (.int .i64 d)) ∧ w'.cell? ⟨bc, oc + 2 * k, none⟩ = some (.int .i64 x) ∧ w'.cell? ⟨bc, oc + (2 * k + 1), none⟩ = some (.int .i64 y)) from fun w' hk => ⟨(HK9'.out w' (bt HBK.out (bt HB0.out hk))).1, (HK9'.out w' (bt HBK.out (bt HB0.out hk))).2, HV4.out.below hk, C1.below (v := .int .i64 x) HX.out (bt HB0.out hk), C1.below (v := .int .i64 y) HY.out (bt HB0.out hk)⟩)
      clear hU hb0 hc1 hc2 hc3 hc4
      go_region_held3 (fun w' => (w'.cell? ⟨w.heap.size + 1, 0, none⟩ = some (.slice (some ⟨bc, oc, none⟩) p.c.length c1) ∧ w'.cell? ⟨w.heap.size + 1, 1, none⟩ = some (.slice (some ⟨bh, oh, none⟩) p.h.length c2) ∧ w'.cell? ⟨w.heap.size + 1, 2, none⟩ = some (.slice (some ⟨br, or, none⟩) p.r.length c3)) ∧ w'.cell? ⟨bh, oh + k, none⟩ = some (.int .i64 e) ∧ w'.cell? ⟨br, or + k, none⟩ = some (.int .i64 z)) (exact HK8.out _ (Below.refl _ U0).drew) ((first | fail))
      go_wp2_with fail
      by_cases hE1 : ¬ p1 = m1
      · have i1 : (p1 != m1) = true := by simpa using hE1
        obtain rfl : r = false := HQS.out.trans (by simp [hE1])
        clear hE1
        refine wp_region_held_drew (S := (fun w' => (w'.cell? ⟨w.heap.size, 0, none⟩ = some (.int .i64 P) ∧ w'.cell? ⟨w.heap.size, 1, none⟩ = some (.int .i64 Q) ∧ w'.cell? ⟨w.heap.size, 2, none⟩ = some (.int .i64 G)) ∧ (w'.cell? ⟨w.heap.size + 1, 0, none⟩ = some (.slice (some ⟨bc, oc, none⟩) p.c.length c1) ∧ w'.cell? ⟨w.heap.size + 1, 1, none⟩ = some (.slice (some ⟨bh, oh, none⟩) p.h.length c2) ∧ w'.cell? ⟨w.heap.size + 1, 2, none⟩ = some (.slice (some ⟨br, or, none⟩) p.r.length c3)) ∧ (w'.cell? ⟨wr.heap.size, 0, none⟩ = some (.int .i64 a) ∧ w'.cell? ⟨wr.heap.size, 1, none⟩ = some (.int .i64 b) ∧ w'.cell? ⟨wr.heap.size, 2, none⟩ = some (.int .i64 c) ∧ w'.cell? ⟨wr.heap.size, 3, none⟩ = some (.int .i64 d)) ∧ w'.cell? ⟨bc, oc + 2 * k, none⟩ = some (.int .i64 x) ∧ w'.cell? ⟨bc, oc + (2 * k + 1), none⟩ = some (.int .i64 y))) (by kernel_rfl) (by first | exact HK9.out _ (Below.refl _ U0).drew.drew | (dsimp only; exact HK9.out _ (Below.refl _ U0).drew.drew)) (fun hHeld => ?_)
        refine wpAnyH_take (i := 0) (v := ?_) rfl (by kernel_rfl) (by kernel_rfl) (by kernel_rfl) (fun _ _ _ h => h) (Or.inl ⟨by kernel_rfl, ?_⟩) (by assumption) ?_
        rotate_left 1
        · intro w hSw
          try dsimp only at hSw
          go_simp
          try with_reducible rfl
        try simp only [Act.put, List.getElem_toArray, List.getElem_cons_succ, List.getElem_cons_zero, List.setIfInBounds_toArray, List.set_cons_zero, List.set_cons_succ]
        refine wpAnyH_take (i := 1) (v := ?_) rfl (by kernel_rfl) (by kernel_rfl) (by kernel_rfl) (fun _ _ _ h => h) (Or.inl ⟨by kernel_rfl, ?_⟩) (by assumption) ?_
        rotate_left 1
        · intro w hSw
          try dsimp only at hSw
          go_simp
          try with_reducible rfl
        try simp only [Act.put, List.getElem_toArray, List.getElem_cons_succ, List.getElem_cons_zero, List.setIfInBounds_toArray, List.set_cons_zero, List.set_cons_succ]
        refine wpAnyH_take (i := 2) (v := ?_) rfl (by kernel_rfl) (by kernel_rfl) (by kernel_rfl) (fun _ _ _ h => h) (Or.inl ⟨by kernel_rfl, ?_⟩) (by assumption) ?_
        rotate_left 1
        · intro w hSw
          try dsimp only at hSw
          go_simp
          try with_reducible rfl
        try simp only [Act.put, List.getElem_toArray, List.getElem_cons_succ, List.getElem_cons_zero, List.setIfInBounds_toArray, List.set_cons_zero, List.set_cons_succ]
        refine wpAnyH_take (i := 3) (v := ?_) rfl (by kernel_rfl) (by kernel_rfl) (by kernel_rfl) (fun _ _ _ h => h) (Or.inl ⟨by kernel_rfl, ?_⟩) (by assumption) ?_
        rotate_left 1
        · intro w hSw
          try dsimp only at hSw
          go_simp
          try with_reducible rfl
        try simp only [Act.put, List.getElem_toArray, List.getElem_cons_succ, List.getElem_cons_zero, List.setIfInBounds_toArray, List.set_cons_zero, List.set_cons_succ]
        refine wpAnyH_take (i := 5) (v := ?_) rfl (by kernel_rfl) (by kernel_rfl) (by kernel_rfl) (fun _ _ _ h => h) (Or.inl ⟨by kernel_rfl, ?_⟩) (by assumption) ?_
        rotate_left 1
        · intro w hSw
          try dsimp only at hSw
          go_simp
          try with_reducible rfl
        try simp only [Act.put, List.getElem_toArray, List.getElem_cons_succ, List.getElem_cons_zero, List.setIfInBounds_toArray, List.set_cons_zero, List.set_cons_succ]
        refine wpAnyH_take (i := 6) (v := ?_) rfl (by kernel_rfl) (by kernel_rfl) (by kernel_rfl) (fun _ _ _ h => h) (Or.inl ⟨by kernel_rfl, ?_⟩) (by assumption) ?_
        rotate_left 1
        · intro w hSw
          try dsimp only at hSw
          go_simp
          try with_reducible rfl
        try simp only [Act.put, List.getElem_toArray, List.getElem_cons_succ, List.getElem_cons_zero, List.setIfInBounds_toArray, List.set_cons_zero, List.set_cons_succ]
        refine wpAnyH_take (i := 7) (v := ?_) rfl (by kernel_rfl) (by kernel_rfl) (by kernel_rfl) (fun _ _ _ h => h) (Or.inl ⟨by kernel_rfl, ?_⟩) (by assumption) ?_
        rotate_left 1
        · intro w hSw
          try dsimp only at hSw
          go_simp
          try with_reducible rfl
        try simp only [Act.put, List.getElem_toArray, List.getElem_cons_succ, List.getElem_cons_zero, List.setIfInBounds_toArray, List.set_cons_zero, List.set_cons_succ]
        refine wpAnyH_take (i := 8) (v := ?_) rfl (by kernel_rfl) (by kernel_rfl) (by kernel_rfl) (fun _ _ _ h => h) (Or.inl ⟨by kernel_rfl, ?_⟩) (by assumption) ?_
        rotate_left 1
        · intro w hSw
          try dsimp only at hSw
          go_simp
          try with_reducible rfl
        try simp only [Act.put, List.getElem_toArray, List.getElem_cons_succ, List.getElem_cons_zero, List.setIfInBounds_toArray, List.set_cons_zero, List.set_cons_succ]
        refine wpAnyH_take (i := 9) (v := ?_) rfl (by kernel_rfl) (by kernel_rfl) (by kernel_rfl) (fun _ _ _ h => h) (Or.inl ⟨by kernel_rfl, ?_⟩) (by assumption) ?_
        rotate_left 1
        · intro w hSw
          try dsimp only at hSw
          go_simp
          try with_reducible rfl
        try simp only [Act.put, List.getElem_toArray, List.getElem_cons_succ, List.getElem_cons_zero, List.setIfInBounds_toArray, List.set_cons_zero, List.set_cons_succ]
        refine wpAnyH_take (i := 10) (v := ?_) rfl (by kernel_rfl) (by kernel_rfl) (by kernel_rfl) (fun _ _ _ h => h) (Or.inl ⟨by kernel_rfl, ?_⟩) (by assumption) ?_
        rotate_left 1
        · intro w hSw
          try dsimp only at hSw
          go_simp
          try with_reducible rfl
        try simp only [Act.put, List.getElem_toArray, List.getElem_cons_succ, List.getElem_cons_zero, List.setIfInBounds_toArray, List.set_cons_zero, List.set_cons_succ]
        refine wpAnyH_take (i := 11) (v := ?_) rfl (by kernel_rfl) (by kernel_rfl) (by kernel_rfl) (fun _ _ _ h => h) (Or.inl ⟨by kernel_rfl, ?_⟩) (by assumption) ?_
        rotate_left 1
        · intro w hSw
          try dsimp only at hSw
          go_simp
          try with_reducible rfl
        try simp only [Act.put, List.getElem_toArray, List.getElem_cons_succ, List.getElem_cons_zero, List.setIfInBounds_toArray, List.set_cons_zero, List.set_cons_succ]
        refine wpAnyH_take (i := 12) (v := ?_) rfl (by kernel_rfl) (by kernel_rfl) (by kernel_rfl) (fun _ _ _ h => h) (Or.inl ⟨by kernel_rfl, ?_⟩) (by assumption) ?_
        rotate_left 1
        · intro w hSw
          try dsimp only at hSw
          go_simp
          try with_reducible rfl
        try simp only [Act.put, List.getElem_toArray, List.getElem_cons_succ, List.getElem_cons_zero, List.setIfInBounds_toArray, List.set_cons_zero, List.set_cons_succ]
        refine wpAnyH_take (i := 13) (v := ?_) rfl (by kernel_rfl) (by kernel_rfl) (by kernel_rfl) (fun _ _ _ h => h) (Or.inl ⟨by kernel_rfl, ?_⟩) (by assumption) ?_
        rotate_left 1
        · intro w hSw
          try dsimp only at hSw
          go_simp
          try with_reducible rfl
        try simp only [Act.put, List.getElem_toArray, List.getElem_cons_succ, List.getElem_cons_zero, List.setIfInBounds_toArray, List.set_cons_zero, List.set_cons_succ]
        refine wpAnyH_take (i := 14) (v := ?_) rfl (by kernel_rfl) (by kernel_rfl) (by kernel_rfl) (fun _ _ _ h => h) (Or.inl ⟨by kernel_rfl, ?_⟩) (by assumption) ?_
        rotate_left 1
        · intro w hSw
          try dsimp only at hSw
          go_simp
          try with_reducible rfl
        try simp only [Act.put, List.getElem_toArray, List.getElem_cons_succ, List.getElem_cons_zero, List.setIfInBounds_toArray, List.set_cons_zero, List.set_cons_succ]
        refine wpAnyH_take (i := 15) (v := ?_) rfl (by kernel_rfl) (by kernel_rfl) (by kernel_rfl) (fun _ _ _ h => h) (Or.inl ⟨by kernel_rfl, ?_⟩) (by assumption) ?_
        rotate_left 1
        · intro w hSw
          try dsimp only at hSw
          go_simp
          try with_reducible rfl
        try simp only [Act.put, List.getElem_toArray, List.getElem_cons_succ, List.getElem_cons_zero, List.setIfInBounds_toArray, List.set_cons_zero, List.set_cons_succ]
        refine wpAnyH_ready (rs := [4]) (by kernel_rfl) (by simp) ?_
        refine AllReadyH.cons rfl (fun K hK => ?_) AllReadyH.nil
        go_simp
        go_at_call 99
        (with_reducible refine (gExp_any P Q G a z har.1 har.2 hzr.1 hzr.2 hPP.1 hPP.2 hQ2.1 hQ2.2 _).mono ?_)
        rw [P1.out]
        rintro e' q1 ⟨rfl, hp⟩
        have HQ1 := Lib.hid (bt (Below.refl _ U0).drew.drew hp)
        clear hp
        go_wp2_with fail
        refine hK.out _ _ (by first | exact HK9.out _ HQ1.out | (dsimp only; exact HK9.out _ HQ1.out)) (fun hHeld => ?_)
        clear hK K
        try simp only [Act.put, List.getElem_toArray, List.getElem_cons_succ, List.getElem_cons_zero, List.setIfInBounds_toArray, List.set_cons_zero, List.set_cons_succ]
        refine wpAnyH_ready (rs := [16]) (by kernel_rfl) (by simp) ?_
        refine AllReadyH.cons rfl (fun K hK => ?_) AllReadyH.nil
        go_simp
        go_at_call 99
        (with_reducible refine (gExp_any P Q G b e hbr.1 hbr.2 her.1 her.2 hPP.1 hPP.2 hQ2.1 hQ2.2 _).mono ?_)
        rw [T1.out]
        rintro e' q2 ⟨rfl, hp⟩
        have HQ2 := Lib.hid (bt HQ1.out hp)
        clear hp
        go_wp2_with fail
        refine hK.out _ _ (by first | exact HK9.out _ HQ2.out | (dsimp only; exact HK9.out _ HQ2.out)) (fun hHeld => ?_)
        clear hK K
        try simp only [Act.put, List.getElem_toArray, List.getElem_cons_succ, List.getElem_cons_zero, List.setIfInBounds_toArray, List.set_cons_zero, List.set_cons_succ]
        refine wpAnyH_ready (rs := [17]) (by kernel_rfl) (by simp) ?_
        refine AllReadyH.cons rfl (fun K hK => ?_) AllReadyH.nil
        go_simp
        refine hK.out _ _ (by first | exact HK9.out _ (bt HQ2.out (ba _ _)) | (dsimp only; exact HK9.out _ (bt HQ2.out (ba _ _)))) (fun hHeld => ?_)
        clear hK K
        try simp only [Act.put, List.getElem_toArray, List.getElem_cons_succ, List.getElem_cons_zero, List.setIfInBounds_toArray, List.set_cons_zero, List.set_cons_succ]
        refine wpAnyH_ready (rs := [18]) (by kernel_rfl) (by simp) ?_
        refine AllReadyH.cons rfl (fun K hK => ?_) AllReadyH.nil
        go_simp
        go_at_call 98
        refine (gMul_any P Q G _ 2 2 [x, t1] rfl (by decide) hPP.1 hPP.2 MR1.out _ (ints_lit q2 [x, t1] 3)).mono ?_
        rw [M1.out]
        rintro e' q3 ⟨rfl, hp⟩
        have HQ3 := Lib.hid (bt (bt HQ2.out (ba _ _)) hp)
        clear hp
        go_wp2_with fail
        refine hK.out _ _ (by first | exact HK9.out _ HQ3.out | (dsimp only; exact HK9.out _ HQ3.out)) (fun hHeld => ?_)
        clear hK K
        try simp only [Act.put, List.getElem_toArray, List.getElem_cons_succ, List.getElem_cons_zero, List.setIfInBounds_toArray, List.set_cons_zero, List.set_cons_succ]
        refine wpAnyH_take (i := 19) (v := ?_) rfl (by kernel_rfl) (by kernel_rfl) (by kernel_rfl) (fun _ _ _ h => h) (Or.inl ⟨by kernel_rfl, ?_⟩) (by assumption) ?_
        rotate_left 1
        · intro w hSw
          try dsimp only at hSw
          go_simp
          try with_reducible rfl
        try simp only [Act.put, List.getElem_toArray, List.getElem_cons_succ, List.getElem_cons_zero, List.setIfInBounds_toArray, List.set_cons_zero, List.set_cons_succ]
        refine wpAnyH_take (i := 20) (v := ?_) rfl (by kernel_rfl) (by kernel_rfl) (by kernel_rfl) (fun _ _ _ h => h) (Or.inl ⟨by kernel_rfl, ?_⟩) (by assumption) ?_
        rotate_left 1
        · intro w hSw
          try dsimp only at hSw
          go_simp
          try with_reducible rfl
        try simp only [Act.put, List.getElem_toArray, List.getElem_cons_succ, List.getElem_cons_zero, List.setIfInBounds_toArray, List.set_cons_zero, List.set_cons_succ]
        refine wpAnyH_take (i := 21) (v := undef) rfl (by kernel_rfl) (by kernel_rfl) (by kernel_rfl) (fun _ _ _ h => h) (Or.inr ⟨by kernel_rfl, rfl⟩) (by assumption) ?_
        try simp only [Act.put, List.getElem_toArray, List.getElem_cons_succ, List.getElem_cons_zero, List.setIfInBounds_toArray, List.set_cons_zero, List.set_cons_succ]
        refine wpAnyH_take (i := 22) (v := undef) rfl (by kernel_rfl) (by kernel_rfl) (by kernel_rfl) (fun _ _ _ h => h) (Or.inr ⟨by kernel_rfl, rfl⟩) (by assumption) ?_
        try simp only [Act.put, List.getElem_toArray, List.getElem_cons_succ, List.getElem_cons_zero, List.setIfInBounds_toArray, List.set_cons_zero, List.set_cons_succ]
        refine wpAnyH_take (i := 23) (v := undef) rfl (by kernel_rfl) (by kernel_rfl) (by kernel_rfl) (fun _ _ _ h => h) (Or.inr ⟨by kernel_rfl, rfl⟩) (by assumption) ?_
        try simp only [Act.put, List.getElem_toArray, List.getElem_cons_succ, List.getElem_cons_zero, List.setIfInBounds_toArray, List.set_cons_zero, List.set_cons_succ]
        refine wpAnyH_take (i := 24) (v := undef) rfl (by kernel_rfl) (by kernel_rfl) (by kernel_rfl) (fun _ _ _ h => h) (Or.inr ⟨by kernel_rfl, rfl⟩) (by assumption) ?_
        try simp only [Act.put, List.getElem_toArray, List.getElem_cons_succ, List.getElem_cons_zero, List.setIfInBounds_toArray, List.set_cons_zero, List.set_cons_succ]
        refine wpAnyH_take (i := 25) (v := undef) rfl (by kernel_rfl) (by kernel_rfl) (by kernel_rfl) (fun _ _ _ h => h) (Or.inr ⟨by kernel_rfl, rfl⟩) (by assumption) ?_
        try simp only [Act.put, List.getElem_toArray, List.getElem_cons_succ, List.getElem_cons_zero, List.setIfInBounds_toArray, List.set_cons_zero, List.set_cons_succ]
        refine wpAnyH_take (i := 26) (v := undef) rfl (by kernel_rfl) (by kernel_rfl) (by kernel_rfl) (fun _ _ _ h => h) (Or.inr ⟨by kernel_rfl, rfl⟩) (by assumption) ?_
        try simp only [Act.put, List.getElem_toArray, List.getElem_cons_succ, List.getElem_cons_zero, List.setIfInBounds_toArray, List.set_cons_zero, List.set_cons_succ]
        refine wpAnyH_take (i := 27) (v := undef) rfl (by kernel_rfl) (by kernel_rfl) (by kernel_rfl) (fun _ _ _ h => h) (Or.inr ⟨by kernel_rfl, rfl⟩) (by assumption) ?_
        try simp only [Act.put, List.getElem_toArray, List.getElem_cons_succ, List.getElem_cons_zero, List.setIfInBounds_toArray, List.set_cons_zero, List.set_cons_succ]
        refine wpAnyH_take (i := 28) (v := undef) rfl (by kernel_rfl) (by kernel_rfl) (by kernel_rfl) (fun _ _ _ h => h) (Or.inr ⟨by kernel_rfl, rfl⟩) (by assumption) ?_
        try simp only [Act.put, List.getElem_toArray, List.getElem_cons_succ, List.getElem_cons_zero, List.setIfInBounds_toArray, List.set_cons_zero, List.set_cons_succ]
        refine wpAnyH_take (i := 29) (v := undef) rfl (by kernel_rfl) (by kernel_rfl) (by kernel_rfl) (fun _ _ _ h => h) (Or.inr ⟨by kernel_rfl, rfl⟩) (by assumption) ?_
        try simp only [Act.put, List.getElem_toArray, List.getElem_cons_succ, List.getElem_cons_zero, List.setIfInBounds_toArray, List.set_cons_zero, List.set_cons_succ]
        refine wpAnyH_take (i := 30) (v := undef) rfl (by kernel_rfl) (by kernel_rfl) (by kernel_rfl) (fun _ _ _ h => h) (Or.inr ⟨by kernel_rfl, rfl⟩) (by assumption) ?_
        try simp only [Act.put, List.getElem_toArray, List.getElem_cons_succ, List.getElem_cons_zero, List.setIfInBounds_toArray, List.set_cons_zero, List.set_cons_succ]
        refine wpAnyH_take (i := 31) (v := undef) rfl (by kernel_rfl) (by kernel_rfl) (by kernel_rfl) (fun _ _ _ h => h) (Or.inr ⟨by kernel_rfl, rfl⟩) (by assumption) ?_
        try simp only [Act.put, List.getElem_toArray, List.getElem_cons_succ, List.getElem_cons_zero, List.setIfInBounds_toArray, List.set_cons_zero, List.set_cons_succ]
        refine wpAnyH_take (i := 32) (v := undef) rfl (by kernel_rfl) (by kernel_rfl) (by kernel_rfl) (fun _ _ _ h => h) (Or.inr ⟨by kernel_rfl, rfl⟩) (by assumption) ?_
        try simp only [Act.put, List.getElem_toArray, List.getElem_cons_succ, List.getElem_cons_zero, List.setIfInBounds_toArray, List.set_cons_zero, List.set_cons_succ]
        refine wpAnyH_take (i := 33) (v := undef) rfl (by kernel_rfl) (by kernel_rfl) (by kernel_rfl) (fun _ _ _ h => h) (Or.inr ⟨by kernel_rfl, rfl⟩) (by assumption) ?_
        try simp only [Act.put, List.getElem_toArray, List.getElem_cons_succ, List.getElem_cons_zero, List.setIfInBounds_toArray, List.set_cons_zero, List.set_cons_succ]
        refine wpAnyH_take (i := 34) (v := undef) rfl (by kernel_rfl) (by kernel_rfl) (by kernel_rfl) (fun _ _ _ h => h) (Or.inr ⟨by kernel_rfl, rfl⟩) (by assumption) ?_
        try simp only [Act.put, List.getElem_toArray, List.getElem_cons_succ, List.getElem_cons_zero, List.setIfInBounds_toArray, List.set_cons_zero, List.set_cons_succ]
        refine wpAnyH_take (i := 35) (v := undef) rfl (by kernel_rfl) (by kernel_rfl) (by kernel_rfl) (fun _ _ _ h => h) (Or.inr ⟨by kernel_rfl, rfl⟩) (by assumption) ?_
        try simp only [Act.put, List.getElem_toArray, List.getElem_cons_succ, List.getElem_cons_zero, List.setIfInBounds_toArray, List.set_cons_zero, List.set_cons_succ]
        refine wpAnyH_take (i := 36) (v := undef) rfl (by kernel_rfl) (by kernel_rfl) (by kernel_rfl) (fun _ _ _ h => h) (Or.inr ⟨by kernel_rfl, rfl⟩) (by assumption) ?_
        try simp only [Act.put, List.getElem_toArray, List.getElem_cons_succ, List.getElem_cons_zero, List.setIfInBounds_toArray, List.set_cons_zero, List.set_cons_succ]
        refine wpAnyH_take (i := 37) (v := undef) rfl (by kernel_rfl) (by kernel_rfl) (by kernel_rfl) (fun _ _ _ h => h) (Or.inr ⟨by kernel_rfl, rfl⟩) (by assumption) ?_
        try simp only [Act.put, List.getElem_toArray, List.getElem_cons_succ, List.getElem_cons_zero, List.setIfInBounds_toArray, List.set_cons_zero, List.set_cons_succ]
        refine wpAnyH_take (i := 38) (v := undef) rfl (by kernel_rfl) (by kernel_rfl) (by kernel_rfl) (fun _ _ _ h => h) (Or.inr ⟨by kernel_rfl, rfl⟩) (by assumption) ?_
        try simp only [Act.put, List.getElem_toArray, List.getElem_cons_succ, List.getElem_cons_zero, List.setIfInBounds_toArray, List.set_cons_zero, List.set_cons_succ]
        refine wpAnyH_take (i := 39) (v := undef) rfl (by kernel_rfl) (by kernel_rfl) (by kernel_rfl) (fun _ _ _ h => h) (Or.inr ⟨by kernel_rfl, rfl⟩) (by assumption) ?_
        try simp only [Act.put, List.getElem_toArray, List.getElem_cons_succ, List.getElem_cons_zero, List.setIfInBounds_toArray, List.set_cons_zero, List.set_cons_succ]
        refine wpAnyH_take (i := 40) (v := undef) rfl (by kernel_rfl) (by kernel_rfl) (by kernel_rfl) (fun _ _ _ h => h) (Or.inr ⟨by kernel_rfl, rfl⟩) (by assumption) ?_
        try simp only [Act.put, List.getElem_toArray, List.getElem_cons_succ, List.getElem_cons_zero, List.setIfInBounds_toArray, List.set_cons_zero, List.set_cons_succ]
        refine wpAnyH_take (i := 41) (v := undef) rfl (by kernel_rfl) (by kernel_rfl) (by kernel_rfl) (fun _ _ _ h => h) (Or.inr ⟨by kernel_rfl, rfl⟩) (by assumption) ?_
        try simp only [Act.put, List.getElem_toArray, List.getElem_cons_succ, List.getElem_cons_zero, List.setIfInBounds_toArray, List.set_cons_zero, List.set_cons_succ]
        refine wpAnyH_take (i := 42) (v := ?_) rfl (by kernel_rfl) (by kernel_rfl) (by kernel_rfl) (fun _ _ _ h => h) (Or.inl ⟨by kernel_rfl, ?_⟩) (by assumption) ?_
        rotate_left 1
        · intro w hSw
          try dsimp only at hSw
          go_simp
          try with_reducible rfl
        try simp only [Act.put, List.getElem_toArray, List.getElem_cons_succ, List.getElem_cons_zero, List.setIfInBounds_toArray, List.set_cons_zero, List.set_cons_succ]
        refine wpAnyH_done (by kernel_rfl) ?_ _
        go_wp2
        go_ret
        exact ⟨rfl, bt HB_9.out (bt HBK.out (bt HB0.out HQ3.out))⟩
      have hE1 := Decidable.not_not.1 hE1
      have i1 : (p1 != m1) = false := by simpa using hE1
      by_cases hE2 : ¬ p2 = m2
      · have i2 : (p2 != m2) = true := by simpa using hE2
        obtain rfl : r = false := HQS.out.trans (by simp [hE2])
        clear hE1 hE2
        refine wp_region_held_drew (S := (fun w' => (w'.cell? ⟨w.heap.size, 0, none⟩ = some (.int .i64 P) ∧ w'.cell? ⟨w.heap.size, 1, none⟩ = some (.int .i64 Q) ∧ w'.cell? ⟨w.heap.size, 2, none⟩ = some (.int .i64 G)) ∧ (w'.cell? ⟨w.heap.size + 1, 0, none⟩ = some (.slice (some ⟨bc, oc, none⟩) p.c.length c1) ∧ w'.cell? ⟨w.heap.size + 1, 1, none⟩ = some (.slice (some ⟨bh, oh, none⟩) p.h.length c2) ∧ w'.cell? ⟨w.heap.size + 1, 2, none⟩ = some (.slice (some ⟨br, or, none⟩) p.r.length c3)) ∧ (w'.cell? ⟨wr.heap.size, 0, none⟩ = some (.int .i64 a) ∧ w'.cell? ⟨wr.heap.size, 1, none⟩ = some (.int .i64 b) ∧ w'.cell? ⟨wr.heap.size, 2, none⟩ = some (.int .i64 c) ∧ w'.cell? ⟨wr.heap.size, 3, none⟩ = some (.int .i64 d)) ∧ w'.cell? ⟨bc, oc + 2 * k, none⟩ = some (.int .i64 x) ∧ w'.cell? ⟨bc, oc + (2 * k + 1), none⟩ = some (.int .i64 y))) (by kernel_rfl) (by first | exact HK9.out _ (Below.refl _ U0).drew.drew | (dsimp only; exact HK9.out _ (Below.refl _ U0).drew.drew)) (fun hHeld => ?_)
        refine wpAnyH_take (i := 0) (v := ?_) rfl (by kernel_rfl) (by kernel_rfl) (by kernel_rfl) (fun _ _ _ h => h) (Or.inl ⟨by kernel_rfl, ?_⟩) (by assumption) ?_
        rotate_left 1
        · intro w hSw
          try dsimp only at hSw
          go_simp
          try with_reducible rfl
        try simp only [Act.put, List.getElem_toArray, List.getElem_cons_succ, List.getElem_cons_zero, List.setIfInBounds_toArray, List.set_cons_zero, List.set_cons_succ]
        refine wpAnyH_take (i := 1) (v := ?_) rfl (by kernel_rfl) (by kernel_rfl) (by kernel_rfl) (fun _ _ _ h => h) (Or.inl ⟨by kernel_rfl, ?_⟩) (by assumption) ?_
        rotate_left 1
        · intro w hSw
          try dsimp only at hSw
          go_simp
          try with_reducible rfl
        try simp only [Act.put, List.getElem_toArray, List.getElem_cons_succ, List.getElem_cons_zero, List.setIfInBounds_toArray, List.set_cons_zero, List.set_cons_succ]
        refine wpAnyH_take (i := 2) (v := ?_) rfl (by kernel_rfl) (by kernel_rfl) (by kernel_rfl) (fun _ _ _ h => h) (Or.inl ⟨by kernel_rfl, ?_⟩) (by assumption) ?_
        rotate_left 1
        · intro w hSw
          try dsimp only at hSw
          go_simp
          try with_reducible rfl
        try simp only [Act.put, List.getElem_toArray, List.getElem_cons_succ, List.getElem_cons_zero, List.setIfInBounds_toArray, List.set_cons_zero, List.set_cons_succ]
        refine wpAnyH_take (i := 3) (v := ?_) rfl (by kernel_rfl) (by kernel_rfl) (by kernel_rfl) (fun _ _ _ h => h) (Or.inl ⟨by kernel_rfl, ?_⟩) (by assumption) ?_
        rotate_left 1
        · intro w hSw
          try dsimp only at hSw
          go_simp
          try with_reducible rfl
        try simp only [Act.put, List.getElem_toArray, List.getElem_cons_succ, List.getElem_cons_zero, List.setIfInBounds_toArray, List.set_cons_zero, List.set_cons_succ]
        refine wpAnyH_take (i := 5) (v := ?_) rfl (by kernel_rfl) (by kernel_rfl) (by kernel_rfl) (fun _ _ _ h => h) (Or.inl ⟨by kernel_rfl, ?_⟩) (by assumption) ?_
        rotate_left 1
        · intro w hSw
          try dsimp only at hSw
          go_simp
          try with_reducible rfl
        try simp only [Act.put, List.getElem_toArray, List.getElem_cons_succ, List.getElem_cons_zero, List.setIfInBounds_toArray, List.set_cons_zero, List.set_cons_succ]
        refine wpAnyH_take (i := 6) (v := ?_) rfl (by kernel_rfl) (by kernel_rfl) (by kernel_rfl) (fun _ _ _ h => h) (Or.inl ⟨by kernel_rfl, ?_⟩) (by assumption) ?_
        rotate_left 1
        · intro w hSw
          try dsimp only at hSw
          go_simp
          try with_reducible rfl
        try simp only [Act.put, List.getElem_toArray, List.getElem_cons_succ, List.getElem_cons_zero, List.setIfInBounds_toArray, List.set_cons_zero, List.set_cons_succ]
        refine wpAnyH_take (i := 7) (v := ?_) rfl (by kernel_rfl) (by kernel_rfl) (by kernel_rfl) (fun _ _ _ h => h) (Or.inl ⟨by kernel_rfl, ?_⟩) (by assumption) ?_
        rotate_left 1
        · intro w hSw
          try dsimp only at hSw
          go_simp
          try with_reducible rfl
        try simp only [Act.put, List.getElem_toArray, List.getElem_cons_succ, List.getElem_cons_zero, List.setIfInBounds_toArray, List.set_cons_zero, List.set_cons_succ]
        refine wpAnyH_take (i := 8) (v := ?_) rfl (by kernel_rfl) (by kernel_rfl) (by kernel_rfl) (fun _ _ _ h => h) (Or.inl ⟨by kernel_rfl, ?_⟩) (by assumption) ?_
        rotate_left 1
        · intro w hSw
          try dsimp only at hSw
          go_simp
          try with_reducible rfl
        try simp only [Act.put, List.getElem_toArray, List.getElem_cons_succ, List.getElem_cons_zero, List.setIfInBounds_toArray, List.set_cons_zero, List.set_cons_succ]
        refine wpAnyH_take (i := 9) (v := ?_) rfl (by kernel_rfl) (by kernel_rfl) (by kernel_rfl) (fun _ _ _ h => h) (Or.inl ⟨by kernel_rfl, ?_⟩) (by assumption) ?_
        rotate_left 1
        · intro w hSw
          try dsimp only at hSw
          go_simp
          try with_reducible rfl
        try simp only [Act.put, List.getElem_toArray, List.getElem_cons_succ, List.getElem_cons_zero, List.setIfInBounds_toArray, List.set_cons_zero, List.set_cons_succ]
        refine wpAnyH_take (i := 10) (v := ?_) rfl (by kernel_rfl) (by kernel_rfl) (by kernel_rfl) (fun _ _ _ h => h) (Or.inl ⟨by kernel_rfl, ?_⟩) (by assumption) ?_
        rotate_left 1
        · intro w hSw
          try dsimp only at hSw
          go_simp
          try with_reducible rfl
        try simp only [Act.put, List.getElem_toArray, List.getElem_cons_succ, List.getElem_cons_zero, List.setIfInBounds_toArray, List.set_cons_zero, List.set_cons_succ]
        refine wpAnyH_take (i := 11) (v := ?_) rfl (by kernel_rfl) (by kernel_rfl) (by kernel_rfl) (fun _ _ _ h => h) (Or.inl ⟨by kernel_rfl, ?_⟩) (by assumption) ?_
        rotate_left 1
        · intro w hSw
          try dsimp only at hSw
          go_simp
          try with_reducible rfl
        try simp only [Act.put, List.getElem_toArray, List.getElem_cons_succ, List.getElem_cons_zero, List.setIfInBounds_toArray, List.set_cons_zero, List.set_cons_succ]
        refine wpAnyH_take (i := 12) (v := ?_) rfl (by kernel_rfl) (by kernel_rfl) (by kernel_rfl) (fun _ _ _ h => h) (Or.inl ⟨by kernel_rfl, ?_⟩) (by assumption) ?_
        rotate_left 1
        · intro w hSw
          try dsimp only at hSw
          go_simp
          try with_reducible rfl
        try simp only [Act.put, List.getElem_toArray, List.getElem_cons_succ, List.getElem_cons_zero, List.setIfInBounds_toArray, List.set_cons_zero, List.set_cons_succ]
        refine wpAnyH_take (i := 13) (v := ?_) rfl (by kernel_rfl) (by kernel_rfl) (by kernel_rfl) (fun _ _ _ h => h) (Or.inl ⟨by kernel_rfl, ?_⟩) (by assumption) ?_
        rotate_left 1
        · intro w hSw
          try dsimp only at hSw
          go_simp
          try with_reducible rfl
        try simp only [Act.put, List.getElem_toArray, List.getElem_cons_succ, List.getElem_cons_zero, List.setIfInBounds_toArray, List.set_cons_zero, List.set_cons_succ]
        refine wpAnyH_take (i := 14) (v := ?_) rfl (by kernel_rfl) (by kernel_rfl) (by kernel_rfl) (fun _ _ _ h => h) (Or.inl ⟨by kernel_rfl, ?_⟩) (by assumption) ?_
        rotate_left 1
        · intro w hSw
          try dsimp only at hSw
          go_simp
          try with_reducible rfl
        try simp only [Act.put, List.getElem_toArray, List.getElem_cons_succ, List.getElem_cons_zero, List.setIfInBounds_toArray, List.set_cons_zero, List.set_cons_succ]
        refine wpAnyH_take (i := 15) (v := ?_) rfl (by kernel_rfl) (by kernel_rfl) (by kernel_rfl) (fun _ _ _ h => h) (Or.inl ⟨by kernel_rfl, ?_⟩) (by assumption) ?_
        rotate_left 1
        · intro w hSw
          try dsimp only at hSw
          go_simp
          try with_reducible rfl
        try simp only [Act.put, List.getElem_toArray, List.getElem_cons_succ, List.getElem_cons_zero, List.setIfInBounds_toArray, List.set_cons_zero, List.set_cons_succ]
        refine wpAnyH_ready (rs := [4]) (by kernel_rfl) (by simp) ?_
        refine AllReadyH.cons rfl (fun K hK => ?_) AllReadyH.nil
        go_simp
        go_at_call 99
        (with_reducible refine (gExp_any P Q G a z har.1 har.2 hzr.1 hzr.2 hPP.1 hPP.2 hQ2.1 hQ2.2 _).mono ?_)
        rw [P1.out]
        rintro e' q1 ⟨rfl, hp⟩
        have HQ1 := Lib.hid (bt (Below.refl _ U0).drew.drew hp)
        clear hp
        go_wp2_with fail
        refine hK.out _ _ (by first | exact HK9.out _ HQ1.out | (dsimp only; exact HK9.out _ HQ1.out)) (fun hHeld => ?_)
        clear hK K
        try simp only [Act.put, List.getElem_toArray, List.getElem_cons_succ, List.getElem_cons_zero, List.setIfInBounds_toArray, List.set_cons_zero, List.set_cons_succ]
        refine wpAnyH_ready (rs := [16]) (by kernel_rfl) (by simp) ?_
        refine AllReadyH.cons rfl (fun K hK => ?_) AllReadyH.nil
        go_simp
        go_at_call 99
        (with_reducible refine (gExp_any P Q G b e hbr.1 hbr.2 her.1 her.2 hPP.1 hPP.2 hQ2.1 hQ2.2 _).mono ?_)
        rw [T1.out]
        rintro e' q2 ⟨rfl, hp⟩
        have HQ2 := Lib.hid (bt HQ1.out hp)
        clear hp
        go_wp2_with fail
        refine hK.out _ _ (by first | exact HK9.out _ HQ2.out | (dsimp only; exact HK9.out _ HQ2.out)) (fun hHeld => ?_)
        clear hK K
        try simp only [Act.put, List.getElem_toArray, List.getElem_cons_succ, List.getElem_cons_zero, List.setIfInBounds_toArray, List.set_cons_zero, List.set_cons_succ]
        refine wpAnyH_ready (rs := [17]) (by kernel_rfl) (by simp) ?_
        refine AllReadyH.cons rfl (fun K hK => ?_) AllReadyH.nil
        go_simp
        refine hK.out _ _ (by first | exact HK9.out _ (bt HQ2.out (ba _ _)) | (dsimp only; exact HK9.out _ (bt HQ2.out (ba _ _)))) (fun hHeld => ?_)
        clear hK K
        try simp only [Act.put, List.getElem_toArray, List.getElem_cons_succ, List.getElem_cons_zero, List.setIfInBounds_toArray, List.set_cons_zero, List.set_cons_succ]
        refine wpAnyH_ready (rs := [18]) (by kernel_rfl) (by simp) ?_
        refine AllReadyH.cons rfl (fun K hK => ?_) AllReadyH.nil
        go_simp
        go_at_call 98
        refine (gMul_any P Q G _ 2 2 [x, t1] rfl (by decide) hPP.1 hPP.2 MR1.out _ (ints_lit q2 [x, t1] 3)).mono ?_
        rw [M1.out]
        rintro e' q3 ⟨rfl, hp⟩
        have HQ3 := Lib.hid (bt (bt HQ2.out (ba _ _)) hp)
        clear hp
        go_wp2_with fail
        refine hK.out _ _ (by first | exact HK9.out _ HQ3.out | (dsimp only; exact HK9.out _ HQ3.out)) (fun hHeld => ?_)
        clear hK K
        try simp only [Act.put, List.getElem_toArray, List.getElem_cons_succ, List.getElem_cons_zero, List.setIfInBounds_toArray, List.set_cons_zero, List.set_cons_succ]
        refine wpAnyH_take (i := 19) (v := ?_) rfl (by kernel_rfl) (by kernel_rfl) (by kernel_rfl) (fun _ _ _ h => h) (Or.inl ⟨by kernel_rfl, ?_⟩) (by assumption) ?_
        rotate_left 1
        · intro w hSw
          try dsimp only at hSw
          go_simp
          try with_reducible rfl
        try simp only [Act.put, List.getElem_toArray, List.getElem_cons_succ, List.getElem_cons_zero, List.setIfInBounds_toArray, List.set_cons_zero, List.set_cons_succ]
        refine wpAnyH_take (i := 20) (v := ?_) rfl (by kernel_rfl) (by kernel_rfl) (by kernel_rfl) (fun _ _ _ h => h) (Or.inl ⟨by kernel_rfl, ?_⟩) (by assumption) ?_
        rotate_left 1
        · intro w hSw
          try dsimp only at hSw
          go_simp
          try with_reducible rfl
        try simp only [Act.put, List.getElem_toArray, List.getElem_cons_succ, List.getElem_cons_zero, List.setIfInBounds_toArray, List.set_cons_zero, List.set_cons_succ]
        refine wpAnyH_take (i := 21) (v := ?_) rfl (by kernel_rfl) (by kernel_rfl) (by kernel_rfl) (fun _ _ _ h => h) (Or.inl ⟨by kernel_rfl, ?_⟩) (by assumption) ?_
        rotate_left 1
        · intro w hSw
          try dsimp only at hSw
          go_simp
          try with_reducible rfl
        try simp only [Act.put, List.getElem_toArray, List.getElem_cons_succ, List.getElem_cons_zero, List.setIfInBounds_toArray, List.set_cons_zero, List.set_cons_succ]
        refine wpAnyH_take (i := 22) (v := ?_) rfl (by kernel_rfl) (by kernel_rfl) (by kernel_rfl) (fun _ _ _ h => h) (Or.inl ⟨by kernel_rfl, ?_⟩) (by assumption) ?_
        rotate_left 1
        · intro w hSw
          try dsimp only at hSw
          go_simp
          try with_reducible rfl
        try simp only [Act.put, List.getElem_toArray, List.getElem_cons_succ, List.getElem_cons_zero, List.setIfInBounds_toArray, List.set_cons_zero, List.set_cons_succ]
        refine wpAnyH_take (i := 23) (v := ?_) rfl (by kernel_rfl) (by kernel_rfl) (by kernel_rfl) (fun _ _ _ h => h) (Or.inl ⟨by kernel_rfl, ?_⟩) (by assumption) ?_
        rotate_left 1
        · intro w hSw
          try dsimp only at hSw
          go_simp
          try with_reducible rfl
        try simp only [Act.put, List.getElem_toArray, List.getElem_cons_succ, List.getElem_cons_zero, List.setIfInBounds_toArray, List.set_cons_zero, List.set_cons_succ]
        refine wpAnyH_take (i := 24) (v := ?_) rfl (by kernel_rfl) (by kernel_rfl) (by kernel_rfl) (fun _ _ _ h => h) (Or.inl ⟨by kernel_rfl, ?_⟩) (by assumption) ?_
        rotate_left 1
        · intro w hSw
          try dsimp only at hSw
          go_simp
          try with_reducible rfl
        try simp only [Act.put, List.getElem_toArray, List.getElem_cons_succ, List.getElem_cons_zero, List.setIfInBounds_toArray, List.set_cons_zero, List.set_cons_succ]
        refine wpAnyH_take (i := 26) (v := ?_) rfl (by kernel_rfl) (by kernel_rfl) (by kernel_rfl) (fun _ _ _ h => h) (Or.inl ⟨by kernel_rfl, ?_⟩) (by assumption) ?_
        rotate_left 1
        · intro w hSw
          try dsimp only at hSw
          go_simp
          try with_reducible rfl
        try simp only [Act.put, List.getElem_toArray, List.getElem_cons_succ, List.getElem_cons_zero, List.setIfInBounds_toArray, List.set_cons_zero, List.set_cons_succ]
        refine wpAnyH_take (i := 27) (v := ?_) rfl (by kernel_rfl) (by kernel_rfl) (by kernel_rfl) (fun _ _ _ h => h) (Or.inl ⟨by kernel_rfl, ?_⟩) (by assumption) ?_
        rotate_left 1
        · intro w hSw
          try dsimp only at hSw
          go_simp
          try with_reducible rfl
        try simp only [Act.put, List.getElem_toArray, List.getElem_cons_succ, List.getElem_cons_zero, List.setIfInBounds_toArray, List.set_cons_zero, List.set_cons_succ]
        refine wpAnyH_take (i := 28) (v := ?_) rfl (by kernel_rfl) (by kernel_rfl) (by kernel_rfl) (fun _ _ _ h => h) (Or.inl ⟨by kernel_rfl, ?_⟩) (by assumption) ?_
        rotate_left 1
        · intro w hSw
          try dsimp only at hSw
          go_simp
          try with_reducible rfl
        try simp only [Act.put, List.getElem_toArray, List.getElem_cons_succ, List.getElem_cons_zero, List.setIfInBounds_toArray, List.set_cons_zero, List.set_cons_succ]
        refine wpAnyH_take (i := 29) (v := ?_) rfl (by kernel_rfl) (by kernel_rfl) (by kernel_rfl) (fun _ _ _ h => h) (Or.inl ⟨by kernel_rfl, ?_⟩) (by assumption) ?_
        rotate_left 1
        · intro w hSw
          try dsimp only at hSw
          go_simp
          try with_reducible rfl
        try simp only [Act.put, List.getElem_toArray, List.getElem_cons_succ, List.getElem_cons_zero, List.setIfInBounds_toArray, List.set_cons_zero, List.set_cons_succ]
        refine wpAnyH_take (i := 30) (v := ?_) rfl (by kernel_rfl) (by kernel_rfl) (by kernel_rfl) (fun _ _ _ h => h) (Or.inl ⟨by kernel_rfl, ?_⟩) (by assumption) ?_
        rotate_left 1
        · intro w hSw
          try dsimp only at hSw
          go_simp
          try with_reducible rfl
        try simp only [Act.put, List.getElem_toArray, List.getElem_cons_succ, List.getElem_cons_zero, List.setIfInBounds_toArray, List.set_cons_zero, List.set_cons_succ]
        refine wpAnyH_take (i := 31) (v := ?_) rfl (by kernel_rfl) (by kernel_rfl) (by kernel_rfl) (fun _ _ _ h => h) (Or.inl ⟨by kernel_rfl, ?_⟩) (by assumption) ?_
        rotate_left 1
        · intro w hSw
          try dsimp only at hSw
          go_simp
          try with_reducible rfl
        try simp only [Act.put, List.getElem_toArray, List.getElem_cons_succ, List.getElem_cons_zero, List.setIfInBounds_toArray, List.set_cons_zero, List.set_cons_succ]
        refine wpAnyH_take (i := 32) (v := ?_) rfl (by kernel_rfl) (by kernel_rfl) (by kernel_rfl) (fun _ _ _ h => h) (Or.inl ⟨by kernel_rfl, ?_⟩) (by assumption) ?_
        rotate_left 1
        · intro w hSw
          try dsimp only at hSw
          go_simp
          try with_reducible rfl
        try simp only [Act.put, List.getElem_toArray, List.getElem_cons_succ, List.getElem_cons_zero, List.setIfInBounds_toArray, List.set_cons_zero, List.set_cons_succ]
        refine wpAnyH_take (i := 33) (v := ?_) rfl (by kernel_rfl) (by kernel_rfl) (by kernel_rfl) (fun _ _ _ h => h) (Or.inl ⟨by kernel_rfl, ?_⟩) (by assumption) ?_
        rotate_left 1
        · intro w hSw
          try dsimp only at hSw
          go_simp
          try with_reducible rfl
        try simp only [Act.put, List.getElem_toArray, List.getElem_cons_succ, List.getElem_cons_zero, List.setIfInBounds_toArray, List.set_cons_zero, List.set_cons_succ]
        refine wpAnyH_take (i := 34) (v := ?_) rfl (by kernel_rfl) (by kernel_rfl) (by kernel_rfl) (fun _ _ _ h => h) (Or.inl ⟨by kernel_rfl, ?_⟩) (by assumption) ?_
        rotate_left 1
        · intro w hSw
          try dsimp only at hSw
          go_simp
          try with_reducible rfl
        try simp only [Act.put, List.getElem_toArray, List.getElem_cons_succ, List.getElem_cons_zero, List.setIfInBounds_toArray, List.set_cons_zero, List.set_cons_succ]
        refine wpAnyH_take (i := 35) (v := ?_) rfl (by kernel_rfl) (by kernel_rfl) (by kernel_rfl) (fun _ _ _ h => h) (Or.inl ⟨by kernel_rfl, ?_⟩) (by assumption) ?_
        rotate_left 1
        · intro w hSw
          try dsimp only at hSw
          go_simp
          try with_reducible rfl
        try simp only [Act.put, List.getElem_toArray, List.getElem_cons_succ, List.getElem_cons_zero, List.setIfInBounds_toArray, List.set_cons_zero, List.set_cons_succ]
        refine wpAnyH_take (i := 36) (v := ?_) rfl (by kernel_rfl) (by kernel_rfl) (by kernel_rfl) (fun _ _ _ h => h) (Or.inl ⟨by kernel_rfl, ?_⟩) (by assumption) ?_
        rotate_left 1
        · intro w hSw
          try dsimp only at hSw
          go_simp
          try with_reducible rfl
        try simp only [Act.put, List.getElem_toArray, List.getElem_cons_succ, List.getElem_cons_zero, List.setIfInBounds_toArray, List.set_cons_zero, List.set_cons_succ]
        refine wpAnyH_take (i := 37) (v := ?_) rfl (by kernel_rfl) (by kernel_rfl) (by kernel_rfl) (fun _ _ _ h => h) (Or.inl ⟨by kernel_rfl, ?_⟩) (by assumption) ?_
        rotate_left 1
        · intro w hSw
          try dsimp only at hSw
          go_simp
          try with_reducible rfl
        try simp only [Act.put, List.getElem_toArray, List.getElem_cons_succ, List.getElem_cons_zero, List.setIfInBounds_toArray, List.set_cons_zero, List.set_cons_succ]
        refine wpAnyH_ready (rs := [25]) (by kernel_rfl) (by simp) ?_
        refine AllReadyH.cons rfl (fun K hK => ?_) AllReadyH.nil
        go_simp
        go_at_call 99
        (with_reducible refine (gExp_any P Q G c z hcr.1 hcr.2 hzr.1 hzr.2 hPP.1 hPP.2 hQ2.1 hQ2.2 _).mono ?_)
        rw [P2.out]
        rintro e' q4 ⟨rfl, hp⟩
        have HQ4 := Lib.hid (bt HQ3.out hp)
        clear hp
        go_wp2_with fail
        refine hK.out _ _ (by first | exact HK9.out _ HQ4.out | (dsimp only; exact HK9.out _ HQ4.out)) (fun hHeld => ?_)
        clear hK K
        try simp only [Act.put, List.getElem_toArray, List.getElem_cons_succ, List.getElem_cons_zero, List.setIfInBounds_toArray, List.set_cons_zero, List.set_cons_succ]
        refine wpAnyH_ready (rs := [38]) (by kernel_rfl) (by simp) ?_
        refine AllReadyH.cons rfl (fun K hK => ?_) AllReadyH.nil
        go_simp
        go_at_call 99
        (with_reducible refine (gExp_any P Q G d e hdr.1 hdr.2 her.1 her.2 hPP.1 hPP.2 hQ2.1 hQ2.2 _).mono ?_)
        rw [T2.out]
        rintro e' q5 ⟨rfl, hp⟩
        have HQ5 := Lib.hid (bt HQ4.out hp)
        clear hp
        go_wp2_with fail
        refine hK.out _ _ (by first | exact HK9.out _ HQ5.out | (dsimp only; exact HK9.out _ HQ5.out)) (fun hHeld => ?_)
        clear hK K
        try simp only [Act.put, List.getElem_toArray, List.getElem_cons_succ, List.getElem_cons_zero, List.setIfInBounds_toArray, List.set_cons_zero, List.set_cons_succ]
        refine wpAnyH_ready (rs := [39]) (by kernel_rfl) (by simp) ?_
        refine AllReadyH.cons rfl (fun K hK => ?_) AllReadyH.nil
        go_simp
        refine hK.out _ _ (by first | exact HK9.out _ (bt HQ5.out (ba _ _)) | (dsimp only; exact HK9.out _ (bt HQ5.out (ba _ _)))) (fun hHeld => ?_)
        clear hK K
        try simp only [Act.put, List.getElem_toArray, List.getElem_cons_succ, List.getElem_cons_zero, List.setIfInBounds_toArray, List.set_cons_zero, List.set_cons_succ]
        refine wpAnyH_ready (rs := [40]) (by kernel_rfl) (by simp) ?_
        refine AllReadyH.cons rfl (fun K hK => ?_) AllReadyH.nil
        go_simp
        go_at_call 98
        refine (gMul_any P Q G _ 2 2 [y, t2] rfl (by decide) hPP.1 hPP.2 MR2.out _ (ints_lit q5 [y, t2] 3)).mono ?_
        rw [M2.out]
        rintro e' q6 ⟨rfl, hp⟩
        have HQ6 := Lib.hid (bt (bt HQ5.out (ba _ _)) hp)
        clear hp
        go_wp2_with fail
        refine hK.out _ _ (by first | exact HK9.out _ HQ6.out | (dsimp only; exact HK9.out _ HQ6.out)) (fun hHeld => ?_)
        clear hK K
        try simp only [Act.put, List.getElem_toArray, List.getElem_cons_succ, List.getElem_cons_zero, List.setIfInBounds_toArray, List.set_cons_zero, List.set_cons_succ]
        refine wpAnyH_take (i := 41) (v := ?_) rfl (by kernel_rfl) (by kernel_rfl) (by kernel_rfl) (fun _ _ _ h => h) (Or.inl ⟨by kernel_rfl, ?_⟩) (by assumption) ?_
        rotate_left 1
        · intro w hSw
          try dsimp only at hSw
          go_simp
          try with_reducible rfl
        try simp only [Act.put, List.getElem_toArray, List.getElem_cons_succ, List.getElem_cons_zero, List.setIfInBounds_toArray, List.set_cons_zero, List.set_cons_succ]
        refine wpAnyH_take (i := 42) (v := ?_) rfl (by kernel_rfl) (by kernel_rfl) (by kernel_rfl) (fun _ _ _ h => h) (Or.inl ⟨by kernel_rfl, ?_⟩) (by assumption) ?_
        rotate_left 1
        · intro w hSw
          try dsimp only at hSw
          go_simp
          try with_reducible rfl
        try simp only [Act.put, List.getElem_toArray, List.getElem_cons_succ, List.getElem_cons_zero, List.setIfInBounds_toArray, List.set_cons_zero, List.set_cons_succ]
        refine wpAnyH_done (by kernel_rfl) ?_ _
        go_wp2
        go_ret
        exact ⟨rfl, bt HB_9.out (bt HBK.out (bt HB0.out HQ6.out))⟩
      have hE2 := Decidable.not_not.1 hE2
      have i2 : (p2 != m2) = false := by simpa using hE2
      have HRN := Lib.hid (HQS.out.trans (by rw [decide_eq_true hE1, decide_eq_true hE2, Bool.true_and, Bool.true_and]))
      clear hE1 hE2
      refine wp_region_held_drew (S := (fun w' => (w'.cell? ⟨w.heap.size, 0, none⟩ = some (.int .i64 P) ∧ w'.cell? ⟨w.heap.size, 1, none⟩ = some (.int .i64 Q) ∧ w'.cell? ⟨w.heap.size, 2, none⟩ = some (.int .i64 G)) ∧ (w'.cell? ⟨w.heap.size + 1, 0, none⟩ = some (.slice (some ⟨bc, oc, none⟩) p.c.length c1) ∧ w'.cell? ⟨w.heap.size + 1, 1, none⟩ = some (.slice (some ⟨bh, oh, none⟩) p.h.length c2) ∧ w'.cell? ⟨w.heap.size + 1, 2, none⟩ = some (.slice (some ⟨br, or, none⟩) p.r.length c3)) ∧ (w'.cell? ⟨wr.heap.size, 0, none⟩ = some (.int .i64 a) ∧ w'.cell? ⟨wr.heap.size, 1, none⟩ = some (.int .i64 b) ∧ w'.cell? ⟨wr.heap.size, 2, none⟩ = some (.int .i64 c) ∧ w'.cell? ⟨wr.heap.size, 3, none⟩ = some (.int .i64 d)) ∧ w'.cell? ⟨bc, oc + 2 * k, none⟩ = some (.int .i64 x) ∧ w'.cell? ⟨bc, oc + (2 * k + 1), none⟩ = some (.int .i64 y))) (by kernel_rfl) (by first | exact HK9.out _ (Below.refl _ U0).drew.drew | (dsimp only; exact HK9.out _ (Below.refl _ U0).drew.drew)) (fun hHeld => ?_)
      refine wpAnyH_take (i := 0) (v := ?_) rfl (by kernel_rfl) (by kernel_rfl) (by kernel_rfl) (fun _ _ _ h => h) (Or.inl ⟨by kernel_rfl, ?_⟩) (by assumption) ?_
      rotate_left 1
      · intro w hSw
        try dsimp only at hSw
        go_simp
        try with_reducible rfl
      try simp only [Act.put, List.getElem_toArray, List.getElem_cons_succ, List.getElem_cons_zero, List.setIfInBounds_toArray, List.set_cons_zero, List.set_cons_succ]
      refine wpAnyH_take (i := 1) (v := ?_) rfl (by kernel_rfl) (by kernel_rfl) (by kernel_rfl) (fun _ _ _ h => h) (Or.inl ⟨by kernel_rfl, ?_⟩) (by assumption) ?_
      rotate_left 1
      · intro w hSw
        try dsimp only at hSw
        go_simp
        try with_reducible rfl
      try simp only [Act.put, List.getElem_toArray, List.getElem_cons_succ, List.getElem_cons_zero, List.setIfInBounds_toArray, List.set_cons_zero, List.set_cons_succ]
      refine wpAnyH_take (i := 2) (v := ?_) rfl (by kernel_rfl) (by kernel_rfl) (by kernel_rfl) (fun _ _ _ h => h) (Or.inl ⟨by kernel_rfl, ?_⟩) (by assumption) ?_
      rotate_left 1
      · intro w hSw
        try dsimp only at hSw
        go_simp
        try with_reducible rfl
      try simp only [Act.put, List.getElem_toArray, List.getElem_cons_succ, List.getElem_cons_zero, List.setIfInBounds_toArray, List.set_cons_zero, List.set_cons_succ]
      refine wpAnyH_take (i := 3) (v := ?_) rfl (by kernel_rfl) (by kernel_rfl) (by kernel_rfl) (fun _ _ _ h => h) (Or.inl ⟨by kernel_rfl, ?_⟩) (by assumption) ?_
      rotate_left 1
      · intro w hSw
        try dsimp only at hSw
        go_simp
        try with_reducible rfl
      try simp only [Act.put, List.getElem_toArray, List.getElem_cons_succ, List.getElem_cons_zero, List.setIfInBounds_toArray, List.set_cons_zero, List.set_cons_succ]
      refine wpAnyH_take (i := 5) (v := ?_) rfl (by kernel_rfl) (by kernel_rfl) (by kernel_rfl) (fun _ _ _ h => h) (Or.inl ⟨by kernel_rfl, ?_⟩) (by assumption) ?_
      rotate_left 1
      · intro w hSw
        try dsimp only at hSw
        go_simp
        try with_reducible rfl
      try simp only [Act.put, List.getElem_toArray, List.getElem_cons_succ, List.getElem_cons_zero, List.setIfInBounds_toArray, List.set_cons_zero, List.set_cons_succ]
      refine wpAnyH_take (i := 6) (v := ?_) rfl (by kernel_rfl) (by kernel_rfl) (by kernel_rfl) (fun _ _ _ h => h) (Or.inl ⟨by kernel_rfl, ?_⟩) (by assumption) ?_
      rotate_left 1
      · intro w hSw
        try dsimp only at hSw
        go_simp
        try with_reducible rfl
      try simp only [Act.put, List.getElem_toArray, List.getElem_cons_succ, List.getElem_cons_zero, List.setIfInBounds_toArray, List.set_cons_zero, List.set_cons_succ]
      refine wpAnyH_take (i := 7) (v := ?_) rfl (by kernel_rfl) (by kernel_rfl) (by kernel_rfl) (fun _ _ _ h => h) (Or.inl ⟨by kernel_rfl, ?_⟩) (by assumption) ?_
      rotate_left 1
      · intro w hSw
        try dsimp only at hSw
        go_simp
        try with_reducible rfl
      try simp only [Act.put, List.getElem_toArray, List.getElem_cons_succ, List.getElem_cons_zero, List.setIfInBounds_toArray, List.set_cons_zero, List.set_cons_succ]
      refine wpAnyH_take (i := 8) (v := ?_) rfl (by kernel_rfl) (by kernel_rfl) (by kernel_rfl) (fun _ _ _ h => h) (Or.inl ⟨by kernel_rfl, ?_⟩) (by assumption) ?_
      rotate_left 1
      · intro w hSw
        try dsimp only at hSw
        go_simp
        try with_reducible rfl
      try simp only [Act.put, List.getElem_toArray, List.getElem_cons_succ, List.getElem_cons_zero, List.setIfInBounds_toArray, List.set_cons_zero, List.set_cons_succ]
      refine wpAnyH_take (i := 9) (v := ?_) rfl (by kernel_rfl) (by kernel_rfl) (by kernel_rfl) (fun _ _ _ h => h) (Or.inl ⟨by kernel_rfl, ?_⟩) (by assumption) ?_
      rotate_left 1
      · intro w hSw
        try dsimp only at hSw
        go_simp
        try with_reducible rfl
      try simp only [Act.put, List.getElem_toArray, List.getElem_cons_succ, List.getElem_cons_zero, List.setIfInBounds_toArray, List.set_cons_zero, List.set_cons_succ]
      refine wpAnyH_take (i := 10) (v := ?_) rfl (by kernel_rfl) (by kernel_rfl) (by kernel_rfl) (fun _ _ _ h => h) (Or.inl ⟨by kernel_rfl, ?_⟩) (by assumption) ?_
      rotate_left 1
      · intro w hSw
        try dsimp only at hSw
        go_simp
        try with_reducible rfl
      try simp only [Act.put, List.getElem_toArray, List.getElem_cons_succ, List.getElem_cons_zero, List.setIfInBounds_toArray, List.set_cons_zero, List.set_cons_succ]
      refine wpAnyH_take (i := 11) (v := ?_) rfl (by kernel_rfl) (by kernel_rfl) (by kernel_rfl) (fun _ _ _ h => h) (Or.inl ⟨by kernel_rfl, ?_⟩) (by assumption) ?_
      rotate_left 1
      · intro w hSw
        try dsimp only at hSw
        go_simp
        try with_reducible rfl
      try simp only [Act.put, List.getElem_toArray, List.getElem_cons_succ, List.getElem_cons_zero, List.setIfInBounds_toArray, List.set_cons_zero, List.set_cons_succ]
      refine wpAnyH_take (i := 12) (v := ?_) rfl (by kernel_rfl) (by kernel_rfl) (by kernel_rfl) (fun _ _ _ h => h) (Or.inl ⟨by kernel_rfl, ?_⟩) (by assumption) ?_
      rotate_left 1
      · intro w hSw
        try dsimp only at hSw
        go_simp
        try with_reducible rfl
      try simp only [Act.put, List.getElem_toArray, List.getElem_cons_succ, List.getElem_cons_zero, List.setIfInBounds_toArray, List.set_cons_zero, List.set_cons_succ]
      refine wpAnyH_take (i := 13) (v := ?_) rfl (by kernel_rfl) (by kernel_rfl) (by kernel_rfl) (fun _ _ _ h => h) (Or.inl ⟨by kernel_rfl, ?_⟩) (by assumption) ?_
      rotate_left 1
      · intro w hSw
        try dsimp only at hSw
        go_simp
        try with_reducible rfl
      try simp only [Act.put, List.getElem_toArray, List.getElem_cons_succ, List.getElem_cons_zero, List.setIfInBounds_toArray, List.set_cons_zero, List.set_cons_succ]
      refine wpAnyH_take (i := 14) (v := ?_) rfl (by kernel_rfl) (by kernel_rfl) (by kernel_rfl) (fun _ _ _ h => h) (Or.inl ⟨by kernel_rfl, ?_⟩) (by assumption) ?_
      rotate_left 1
      · intro w hSw
        try dsimp only at hSw
        go_simp
        try with_reducible rfl
      try simp only [Act.put, List.getElem_toArray, List.getElem_cons_succ, List.getElem_cons_zero, List.setIfInBounds_toArray, List.set_cons_zero, List.set_cons_succ]
      refine wpAnyH_take (i := 15) (v := ?_) rfl (by kernel_rfl) (by kernel_rfl) (by kernel_rfl) (fun _ _ _ h => h) (Or.inl ⟨by kernel_rfl, ?_⟩) (by assumption) ?_
      rotate_left 1
      · intro w hSw
        try dsimp only at hSw
        go_simp
        try with_reducible rfl
      try simp only [Act.put, List.getElem_toArray, List.getElem_cons_succ, List.getElem_cons_zero, List.setIfInBounds_toArray, List.set_cons_zero, List.set_cons_succ]
      refine wpAnyH_ready (rs := [4]) (by kernel_rfl) (by simp) ?_
      refine AllReadyH.cons rfl (fun K hK => ?_) AllReadyH.nil
      go_simp
      go_at_call 99
      (with_reducible refine (gExp_any P Q G a z har.1 har.2 hzr.1 hzr.2 hPP.1 hPP.2 hQ2.1 hQ2.2 _).mono ?_)
      rw [P1.out]
      rintro e' q1 ⟨rfl, hp⟩
      have HQ1 := Lib.hid (bt (Below.refl _ U0).drew.drew hp)
      clear hp
      go_wp2_with fail
      refine hK.out _ _ (by first | exact HK9.out _ HQ1.out | (dsimp only; exact HK9.out _ HQ1.out)) (fun hHeld => ?_)
      clear hK K
      try simp only [Act.put, List.getElem_toArray, List.getElem_cons_succ, List.getElem_cons_zero, List.setIfInBounds_toArray, List.set_cons_zero, List.set_cons_succ]
      refine wpAnyH_ready (rs := [16]) (by kernel_rfl) (by simp) ?_
      refine AllReadyH.cons rfl (fun K hK => ?_) AllReadyH.nil
      go_simp
      go_at_call 99
      (with_reducible refine (gExp_any P Q G b e hbr.1 hbr.2 her.1 her.2 hPP.1 hPP.2 hQ2.1 hQ2.2 _).mono ?_)
      rw [T1.out]
      rintro e' q2 ⟨rfl, hp⟩
      have HQ2 := Lib.hid (bt HQ1.out hp)
      clear hp
      go_wp2_with fail
      refine hK.out _ _ (by first | exact HK9.out _ HQ2.out | (dsimp only; exact HK9.out _ HQ2.out)) (fun hHeld => ?_)
      clear hK K
      try simp only [Act.put, List.getElem_toArray, List.getElem_cons_succ, List.getElem_cons_zero, List.setIfInBounds_toArray, List.set_cons_zero, List.set_cons_succ]
      refine wpAnyH_ready (rs := [17]) (by kernel_rfl) (by simp) ?_
      refine AllReadyH.cons rfl (fun K hK => ?_) AllReadyH.nil
      go_simp
      refine hK.out _ _ (by first | exact HK9.out _ (bt HQ2.out (ba _ _)) | (dsimp only; exact HK9.out _ (bt HQ2.out (ba _ _)))) (fun hHeld => ?_)
      clear hK K
      try simp only [Act.put, List.getElem_toArray, List.getElem_cons_succ, List.getElem_cons_zero, List.setIfInBounds_toArray, List.set_cons_zero, List.set_cons_succ]
      refine wpAnyH_ready (rs := [18]) (by kernel_rfl) (by simp) ?_
      refine AllReadyH.cons rfl (fun K hK => ?_) AllReadyH.nil
      go_simp
      go_at_call 98
      refine (gMul_any P Q G _ 2 2 [x, t1] rfl (by decide) hPP.1 hPP.2 MR1.out _ (ints_lit q2 [x, t1] 3)).mono ?_
      rw [M1.out]
      rintro e' q3 ⟨rfl, hp⟩
      have HQ3 := Lib.hid (bt (bt HQ2.out (ba _ _)) hp)
      clear hp
      go_wp2_with fail
      refine hK.out _ _ (by first | exact HK9.out _ HQ3.out | (dsimp only; exact HK9.out _ HQ3.out)) (fun hHeld => ?_)
      clear hK K
      try simp only [Act.put, List.getElem_toArray, List.getElem_cons_succ, List.getElem_cons_zero, List.setIfInBounds_toArray, List.set_cons_zero, List.set_cons_succ]
      refine wpAnyH_take (i := 19) (v := ?_) rfl (by kernel_rfl) (by kernel_rfl) (by kernel_rfl) (fun _ _ _ h => h) (Or.inl ⟨by kernel_rfl, ?_⟩) (by assumption) ?_
      rotate_left 1
      · intro w hSw
        try dsimp only at hSw
        go_simp
        try with_reducible rfl
      try simp only [Act.put, List.getElem_toArray, List.getElem_cons_succ, List.getElem_cons_zero, List.setIfInBounds_toArray, List.set_cons_zero, List.set_cons_succ]
      refine wpAnyH_take (i := 20) (v := ?_) rfl (by kernel_rfl) (by kernel_rfl) (by kernel_rfl) (fun _ _ _ h => h) (Or.inl ⟨by kernel_rfl, ?_⟩) (by assumption) ?_
      rotate_left 1
      · intro w hSw
        try dsimp only at hSw
        go_simp
        try with_reducible rfl
      try simp only [Act.put, List.getElem_toArray, List.getElem_cons_succ, List.getElem_cons_zero, List.setIfInBounds_toArray, List.set_cons_zero, List.set_cons_succ]
      refine wpAnyH_take (i := 21) (v := ?_) rfl (by kernel_rfl) (by kernel_rfl) (by kernel_rfl) (fun _ _ _ h => h) (Or.inl ⟨by kernel_rfl, ?_⟩) (by assumption) ?_
      rotate_left 1
      · intro w hSw
        try dsimp only at hSw
        go_simp
        try with_reducible rfl
      try simp only [Act.put, List.getElem_toArray, List.getElem_cons_succ, List.getElem_cons_zero, List.setIfInBounds_toArray, List.set_cons_zero, List.set_cons_succ]
      refine wpAnyH_take (i := 22) (v := ?_) rfl (by kernel_rfl) (by kernel_rfl) (by kernel_rfl) (fun _ _ _ h => h) (Or.inl ⟨by kernel_rfl, ?_⟩) (by assumption) ?_
      rotate_left 1
      · intro w hSw
        try dsimp only at hSw
        go_simp
        try with_reducible rfl
      try simp only [Act.put, List.getElem_toArray, List.getElem_cons_succ, List.getElem_cons_zero, List.setIfInBounds_toArray, List.set_cons_zero, List.set_cons_succ]
      refine wpAnyH_take (i := 23) (v := ?_) rfl (by kernel_rfl) (by kernel_rfl) (by kernel_rfl) (fun _ _ _ h => h) (Or.inl ⟨by kernel_rfl, ?_⟩) (by assumption) ?_
      rotate_left 1
      · intro w hSw
        try dsimp only at hSw
        go_simp
        try with_reducible rfl
      try simp only [Act.put, List.getElem_toArray, List.getElem_cons_succ, List.getElem_cons_zero, List.setIfInBounds_toArray, List.set_cons_zero, List.set_cons_succ]
      refine wpAnyH_take (i := 24) (v := ?_) rfl (by kernel_rfl) (by kernel_rfl) (by kernel_rfl) (fun _ _ _ h => h) (Or.inl ⟨by kernel_rfl, ?_⟩) (by assumption) ?_
      rotate_left 1
      · intro w hSw
        try dsimp only at hSw
        go_simp
        try with_reducible rfl
      try simp only [Act.put, List.getElem_toArray, List.getElem_cons_succ, List.getElem_cons_zero, List.setIfInBounds_toArray, List.set_cons_zero, List.set_cons_succ]
      refine wpAnyH_take (i := 26) (v := ?_) rfl (by kernel_rfl) (by kernel_rfl) (by kernel_rfl) (fun _ _ _ h => h) (Or.inl ⟨by kernel_rfl, ?_⟩) (by assumption) ?_
      rotate_left 1
      · intro w hSw
        try dsimp only at hSw
        go_simp
        try with_reducible rfl
      try simp only [Act.put, List.getElem_toArray, List.getElem_cons_succ, List.getElem_cons_zero, List.setIfInBounds_toArray, List.set_cons_zero, List.set_cons_succ]
      refine wpAnyH_take (i := 27) (v := ?_) rfl (by kernel_rfl) (by kernel_rfl) (by kernel_rfl) (fun _ _ _ h => h) (Or.inl ⟨by kernel_rfl, ?_⟩) (by assumption) ?_
      rotate_left 1
      · intro w hSw
        try dsimp only at hSw
        go_simp
        try with_reducible rfl
      try simp only [Act.put, List.getElem_toArray, List.getElem_cons_succ, List.getElem_cons_zero, List.setIfInBounds_toArray, List.set_cons_zero, List.set_cons_succ]
      refine wpAnyH_take (i := 28) (v := ?_) rfl (by kernel_rfl) (by kernel_rfl) (by kernel_rfl) (fun _ _ _ h => h) (Or.inl ⟨by kernel_rfl, ?_⟩) (by assumption) ?_
      rotate_left 1
      · intro w hSw
        try dsimp only at hSw
        go_simp
        try with_reducible rfl
      try simp only [Act.put, List.getElem_toArray, List.getElem_cons_succ, List.getElem_cons_zero, List.setIfInBounds_toArray, List.set_cons_zero, List.set_cons_succ]
      refine wpAnyH_take (i := 29) (v := ?_) rfl (by kernel_rfl) (by kernel_rfl) (by kernel_rfl) (fun _ _ _ h => h) (Or.inl ⟨by kernel_rfl, ?_⟩) (by assumption) ?_
      rotate_left 1
      · intro w hSw
        try dsimp only at hSw
        go_simp
        try with_reducible rfl
      try simp only [Act.put, List.getElem_toArray, List.getElem_cons_succ, List.getElem_cons_zero, List.setIfInBounds_toArray, List.set_cons_zero, List.set_cons_succ]
      refine wpAnyH_take (i := 30) (v := ?_) rfl (by kernel_rfl) (by kernel_rfl) (by kernel_rfl) (fun _ _ _ h => h) (Or.inl ⟨by kernel_rfl, ?_⟩) (by assumption) ?_
      rotate_left 1
      · intro w hSw
        try dsimp only at hSw
        go_simp
        try with_reducible rfl
      try simp only [Act.put, List.getElem_toArray, List.getElem_cons_succ, List.getElem_cons_zero, List.setIfInBounds_toArray, List.set_cons_zero, List.set_cons_succ]
      refine wpAnyH_take (i := 31) (v := ?_) rfl (by kernel_rfl) (by kernel_rfl) (by kernel_rfl) (fun _ _ _ h => h) (Or.inl ⟨by kernel_rfl, ?_⟩) (by assumption) ?_
      rotate_left 1
      · intro w hSw
        try dsimp only at hSw
        go_simp
        try with_reducible rfl
      try simp only [Act.put, List.getElem_toArray, List.getElem_cons_succ, List.getElem_cons_zero, List.setIfInBounds_toArray, List.set_cons_zero, List.set_cons_succ]
      refine wpAnyH_take (i := 32) (v := ?_) rfl (by kernel_rfl) (by kernel_rfl) (by kernel_rfl) (fun _ _ _ h => h) (Or.inl ⟨by kernel_rfl, ?_⟩) (by assumption) ?_
      rotate_left 1
      · intro w hSw
        try dsimp only at hSw
        go_simp
        try with_reducible rfl
      try simp only [Act.put, List.getElem_toArray, List.getElem_cons_succ, List.getElem_cons_zero, List.setIfInBounds_toArray, List.set_cons_zero, List.set_cons_succ]
      refine wpAnyH_take (i := 33) (v := ?_) rfl (by kernel_rfl) (by kernel_rfl) (by kernel_rfl) (fun _ _ _ h => h) (Or.inl ⟨by kernel_rfl, ?_⟩) (by assumption) ?_
      rotate_left 1
      · intro w hSw
        try dsimp only at hSw
        go_simp
        try with_reducible rfl
      try simp only [Act.put, List.getElem_toArray, List.getElem_cons_succ, List.getElem_cons_zero, List.setIfInBounds_toArray, List.set_cons_zero, List.set_cons_succ]
      refine wpAnyH_take (i := 34) (v := ?_) rfl (by kernel_rfl) (by kernel_rfl) (by kernel_rfl) (fun _ _ _ h => h) (Or.inl ⟨by kernel_rfl, ?_⟩) (by assumption) ?_
      rotate_left 1
      · intro w hSw
        try dsimp only at hSw
        go_simp
        try with_reducible rfl
      try simp only [Act.put, List.getElem_toArray, List.getElem_cons_succ, List.getElem_cons_zero, List.setIfInBounds_toArray, List.set_cons_zero, List.set_cons_succ]
      refine wpAnyH_take (i := 35) (v := ?_) rfl (by kernel_rfl) (by kernel_rfl) (by kernel_rfl) (fun _ _ _ h => h) (Or.inl ⟨by kernel_rfl, ?_⟩) (by assumption) ?_
      rotate_left 1
      · intro w hSw
        try dsimp only at hSw
        go_simp
        try with_reducible rfl
      try simp only [Act.put, List.getElem_toArray, List.getElem_cons_succ, List.getElem_cons_zero, List.setIfInBounds_toArray, List.set_cons_zero, List.set_cons_succ]
      refine wpAnyH_take (i := 36) (v := ?_) rfl (by kernel_rfl) (by kernel_rfl) (by kernel_rfl) (fun _ _ _ h => h) (Or.inl ⟨by kernel_rfl, ?_⟩) (by assumption) ?_
      rotate_left 1
      · intro w hSw
        try dsimp only at hSw
        go_simp
        try with_reducible rfl
      try simp only [Act.put, List.getElem_toArray, List.getElem_cons_succ, List.getElem_cons_zero, List.setIfInBounds_toArray, List.set_cons_zero, List.set_cons_succ]
      refine wpAnyH_take (i := 37) (v := ?_) rfl (by kernel_rfl) (by kernel_rfl) (by kernel_rfl) (fun _ _ _ h => h) (Or.inl ⟨by kernel_rfl, ?_⟩) (by assumption) ?_
      rotate_left 1
      · intro w hSw
        try dsimp only at hSw
        go_simp
        try with_reducible rfl
      try simp only [Act.put, List.getElem_toArray, List.getElem_cons_succ, List.getElem_cons_zero, List.setIfInBounds_toArray, List.set_cons_zero, List.set_cons_succ]
      refine wpAnyH_ready (rs := [25]) (by kernel_rfl) (by simp) ?_
      refine AllReadyH.cons rfl (fun K hK => ?_) AllReadyH.nil
      go_simp
      go_at_call 99
      (with_reducible refine (gExp_any P Q G c z hcr.1 hcr.2 hzr.1 hzr.2 hPP.1 hPP.2 hQ2.1 hQ2.2 _).mono ?_)
      rw [P2.out]
      rintro e' q4 ⟨rfl, hp⟩
      have HQ4 := Lib.hid (bt HQ3.out hp)
      clear hp
      go_wp2_with fail
      refine hK.out _ _ (by first | exact HK9.out _ HQ4.out | (dsimp only; exact HK9.out _ HQ4.out)) (fun hHeld => ?_)
      clear hK K
      try simp only [Act.put, List.getElem_toArray, List.getElem_cons_succ, List.getElem_cons_zero, List.setIfInBounds_toArray, List.set_cons_zero, List.set_cons_succ]
      refine wpAnyH_ready (rs := [38]) (by kernel_rfl) (by simp) ?_
      refine AllReadyH.cons rfl (fun K hK => ?_) AllReadyH.nil
      go_simp
      go_at_call 99
      (with_reducible refine (gExp_any P Q G d e hdr.1 hdr.2 her.1 her.2 hPP.1 hPP.2 hQ2.1 hQ2.2 _).mono ?_)
      rw [T2.out]
      rintro e' q5 ⟨rfl, hp⟩
      have HQ5 := Lib.hid (bt HQ4.out hp)
      clear hp
      go_wp2_with fail
      refine hK.out _ _ (by first | exact HK9.out _ HQ5.out | (dsimp only; exact HK9.out _ HQ5.out)) (fun hHeld => ?_)
      clear hK K
      try simp only [Act.put, List.getElem_toArray, List.getElem_cons_succ, List.getElem_cons_zero, List.setIfInBounds_toArray, List.set_cons_zero, List.set_cons_succ]
      refine wpAnyH_ready (rs := [39]) (by kernel_rfl) (by simp) ?_
      refine AllReadyH.cons rfl (fun K hK => ?_) AllReadyH.nil
      go_simp
      refine hK.out _ _ (by first | exact HK9.out _ (bt HQ5.out (ba _ _)) | (dsimp only; exact HK9.out _ (bt HQ5.out (ba _ _)))) (fun hHeld => ?_)
      clear hK K
      try simp only [Act.put, List.getElem_toArray, List.getElem_cons_succ, List.getElem_cons_zero, List.setIfInBounds_toArray, List.set_cons_zero, List.set_cons_succ]
      refine wpAnyH_ready (rs := [40]) (by kernel_rfl) (by simp) ?_
      refine AllReadyH.cons rfl (fun K hK => ?_) AllReadyH.nil
      go_simp
      go_at_call 98
      refine (gMul_any P Q G _ 2 2 [y, t2] rfl (by decide) hPP.1 hPP.2 MR2.out _ (ints_lit q5 [y, t2] 3)).mono ?_
      rw [M2.out]
      rintro e' q6 ⟨rfl, hp⟩
      have HQ6 := Lib.hid (bt (bt HQ5.out (ba _ _)) hp)
      clear hp
      go_wp2_with fail
      refine hK.out _ _ (by first | exact HK9.out _ HQ6.out | (dsimp only; exact HK9.out _ HQ6.out)) (fun hHeld => ?_)
      clear hK K
      try simp only [Act.put, List.getElem_toArray, List.getElem_cons_succ, List.getElem_cons_zero, List.setIfInBounds_toArray, List.set_cons_zero, List.set_cons_succ]
      refine wpAnyH_take (i := 41) (v := ?_) rfl (by kernel_rfl) (by kernel_rfl) (by kernel_rfl) (fun _ _ _ h => h) (Or.inl ⟨by kernel_rfl, ?_⟩) (by assumption) ?_
      rotate_left 1
      · intro w hSw
        try dsimp only at hSw
        go_simp
        try with_reducible rfl
      try simp only [Act.put, List.getElem_toArray, List.getElem_cons_succ, List.getElem_cons_zero, List.setIfInBounds_toArray, List.set_cons_zero, List.set_cons_succ]
      refine wpAnyH_take (i := 42) (v := ?_) rfl (by kernel_rfl) (by kernel_rfl) (by kernel_rfl) (fun _ _ _ h => h) (Or.inl ⟨by kernel_rfl, ?_⟩) (by assumption) ?_
      rotate_left 1
      · intro w hSw
        try dsimp only at hSw
        go_simp
        try with_reducible rfl
      try simp only [Act.put, List.getElem_toArray, List.getElem_cons_succ, List.getElem_cons_zero, List.setIfInBounds_toArray, List.set_cons_zero, List.set_cons_succ]
      refine wpAnyH_done (by kernel_rfl) ?_ _
      go_wp2_with fail
      go_roundw
      case rel => exact ⟨k + 1, by omega, by go_num, HRN.out, bt HBK.out (bt HB0.out HQ6.out)⟩
      case measure => simp only [intOf]; omega
    · obtain rfl : r = true := HRK.out.trans (quadOk_end (by have := HN.out; omega))
      go_wp2
      go_ret
      exact ⟨rfl, bt HB_9.out HBK.out⟩

theorem vrB_eq2 (P Q G : Int) (s : ByteArray) (l : List Int) : vrB P Q G s (St.cho l) = ((goodB P Q G && decide (s.size ≤ 40)) && choB P Q l) := by rw [vrB_eq]; rfl
set_option maxRecDepth 100000 in
set_option maxHeartbeats 3200000 in
theorem sVerifyOneOf_any (P Q G : Int) (s : ByteArray) (hs : s.size ≤ 1048576) {B1 : Nat} {u1 : Value} {es : List Int} (hl : es.length ≤ 17592186044416) {B : Nat} {v : Value} {p : PrD} (hpn : p.n ≤ 1048576) {w : World} (hu1 : InE B1 w u1 es) (hP : InP B w v p) :
    Calls Try.prog 32 #[gv P Q G, .string s, u1, v] w (EqOut (.tuple #[.bool (vrV P Q G s (St.cho es) p), .bool (vrB P Q G s (St.cho es))]) w) := by
  obtain ⟨y1, yn, y2, rfl, hyn, _, _⟩ := hu1.shape
  obtain ⟨a1, c1, a2, c2, a3, c3, rfl, _, _, _⟩ := hP.parts
  have HYN := Lib.hid hyn
  have hal := ba (w.alloc (.cells #[.int .i64 P, .int .i64 Q, .int .i64 G] 32)) (.cells #[.slice a1 p.c.length c1, .slice a2 p.h.length c2, .slice a3 p.r.length c3] 36)
  have HB_0 := Lib.hid (bt (ba w (.cells #[.int .i64 P, .int .i64 Q, .int .i64 G] 32)) hal)
  have G_0 := Lib.hid (GR.below (gr_new w P Q G 32) hal)
  have hv := b3_new (w.alloc (.cells #[.int .i64 P, .int .i64 Q, .int .i64 G] 32)) (.slice a1 p.c.length c1) (.slice a2 p.h.length c2) (.slice a3 p.r.length c3) 36
  rw [show (w.alloc (.cells #[.int .i64 P, .int .i64 Q, .int .i64 G] 32)).heap.size = w.heap.size + 1 by simp] at hv
  have V_0 := Lib.hid hv
  have P_0 := Lib.hid (hP.below HB_0.out)
  have M_0 := Lib.hid (hu1.below HB_0.out)
  clear hal hv hP hu1 hyn
  cases h0 : (goodB P Q G && decide (s.size ≤ 40))
  · have K0 := Lib.hid (show (goodB P Q G && decide (s.size ≤ 40)) = false from h0)
    have E1 := Lib.hid (show vrB P Q G s (St.cho es) = false from by rw [vrB_eq2, h0]; rfl)
    have E2 := Lib.hid (vrV_off (p := p) E1.out)
    rw [E1.out, E2.out]
    clear h0
    obtain ⟨gG0, gG1, gG2⟩ := G_0.out
    obtain ⟨bV0, bV1, bV2, _⟩ := V_0.out
    go_enter Try.func32, Try.ntmps32
    go_wp2_with fail
    refine (sLabel_any P Q G s hs _).mono ?_
    rw [K0.out]
    rintro e v1 ⟨rfl, hb⟩
    have HB_1 := Lib.hid (bt HB_0.out hb)
    have G_1 := Lib.hid (G_0.out.below hb)
    have V_1 := Lib.hid (V_0.out.below hb)
    have M_1 := Lib.hid (M_0.out.below hb)
    have P_1 := Lib.hid (P_0.out.below hb)
    clear hb gG0 gG1 gG2 bV0 bV1 bV2
    obtain ⟨gG0, gG1, gG2⟩ := G_1.out
    obtain ⟨bV0, bV1, bV2, _⟩ := V_1.out
    go_wp2
    go_ret2
    exact ⟨rfl, HB_1.out⟩
  have K0 := Lib.hid (show (goodB P Q G && decide (s.size ≤ 40)) = true from h0)
  have HGd := Lib.hid (show goodB P Q G = true from ((Bool.and_eq_true _ _).mp h0).1)
  have hs40 : s.size ≤ 1000000 := by have := of_decide_eq_true ((Bool.and_eq_true _ _).mp h0).2; omega
  cases h1 : choB P Q es
  · have K1 := Lib.hid (show choB P Q es = false from h1)
    have E1 := Lib.hid (show vrB P Q G s (St.cho es) = false from by rw [vrB_eq2, h0, h1]; rfl)
    have E2 := Lib.hid (vrV_off (p := p) E1.out)
    rw [E1.out, E2.out]
    clear h0 h1
    obtain ⟨gG0, gG1, gG2⟩ := G_0.out
    obtain ⟨bV0, bV1, bV2, _⟩ := V_0.out
    go_enter Try.func32, Try.ntmps32
    go_wp2_with fail
    refine (sLabel_any P Q G s hs _).mono ?_
    rw [K0.out]
    rintro e v1 ⟨rfl, hb⟩
    have HB_1 := Lib.hid (bt HB_0.out hb)
    have G_1 := Lib.hid (G_0.out.below hb)
    have V_1 := Lib.hid (V_0.out.below hb)
    have M_1 := Lib.hid (M_0.out.below hb)
    have P_1 := Lib.hid (P_0.out.below hb)
    clear hb gG0 gG1 gG2 bV0 bV1 bV2
    obtain ⟨gG0, gG1, gG2⟩ := G_1.out
    obtain ⟨bV0, bV1, bV2, _⟩ := V_1.out
    go_wp2_with fail
    refine (sAll_any P Q G (good_mo HGd.out) M_1.out hl).mono ?_
    rw [K1.out]
    rintro e v2 ⟨rfl, hb⟩
    have HB_2 := Lib.hid (bt HB_1.out hb)
    have G_2 := Lib.hid (G_1.out.below hb)
    have V_2 := Lib.hid (V_1.out.below hb)
    have M_2 := Lib.hid (M_1.out.below hb)
    have P_2 := Lib.hid (P_1.out.below hb)
    clear hb gG0 gG1 gG2 bV0 bV1 bV2
    obtain ⟨gG0, gG1, gG2⟩ := G_2.out
    obtain ⟨bV0, bV1, bV2, _⟩ := V_2.out
    go_wp2
    go_ret2
    exact ⟨rfl, HB_2.out⟩
  have K1 := Lib.hid (show choB P Q es = true from h1)
  have hvb : vrB P Q G s (St.cho es) = true := by rw [vrB_eq2, h0, h1]; rfl
  have E1 := Lib.hid hvb
  have E2 := Lib.hid (vr_cho (p := p) HYN.out hvb)
  rw [E1.out, E2.out]
  have K1b := Lib.hid h1
  clear hvb h0 h1
  obtain ⟨gG0, gG1, gG2⟩ := G_0.out
  obtain ⟨bV0, bV1, bV2, _⟩ := V_0.out
  go_enter Try.func32, Try.ntmps32
  go_wp2_with fail
  refine (sLabel_any P Q G s hs _).mono ?_
  rw [K0.out]
  rintro e v1 ⟨rfl, hb⟩
  have HB_1 := Lib.hid (bt HB_0.out hb)
  have G_1 := Lib.hid (G_0.out.below hb)
  have V_1 := Lib.hid (V_0.out.below hb)
  have M_1 := Lib.hid (M_0.out.below hb)
  have P_1 := Lib.hid (P_0.out.below hb)
  clear hb gG0 gG1 gG2 bV0 bV1 bV2
  obtain ⟨gG0, gG1, gG2⟩ := G_1.out
  obtain ⟨bV0, bV1, bV2, _⟩ := V_1.out
  go_wp2_with fail
  refine (sAll_any P Q G (good_mo HGd.out) M_1.out hl).mono ?_
  rw [K1.out]
  rintro e v2 ⟨rfl, hb⟩
  have HB_2 := Lib.hid (bt HB_1.out hb)
  have G_2 := Lib.hid (G_1.out.below hb)
  have V_2 := Lib.hid (V_1.out.below hb)
  have M_2 := Lib.hid (M_1.out.below hb)
  have P_2 := Lib.hid (P_1.out.below hb)
  clear hb gG0 gG1 gG2 bV0 bV1 bV2
  obtain ⟨gG0, gG1, gG2⟩ := G_2.out
  obtain ⟨bV0, bV1, bV2, _⟩ := V_2.out
  go_wp2_with fail
  refine (sVerifyOne_any P Q G HGd.out s hs40 K1b.out hpn M_2.out P_2.out).mono ?_
  rintro e v9 ⟨rfl, hb⟩
  have HB_9 := Lib.hid (bt HB_2.out hb)
  clear hb
  go_wp2
  go_ret2
  exact ⟨rfl, HB_9.out⟩

end Go.Proofs.Ytdaekpfngphefaa

