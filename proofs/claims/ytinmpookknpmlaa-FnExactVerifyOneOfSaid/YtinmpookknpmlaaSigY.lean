/- Sigma proofs, one of several statements: the reference's sAll; the program's VerifyOneOf. -/
import Derived.Test.YtinmpookknpmlaaSigX
namespace Go.Proofs.Ytinmpookknpmlaa
open Go.RowKit
set_option linter.unusedVariables false
set_option linter.unusedSimpArgs false

theorem choB_eq {P Q : Int} {l : List Int} {n : Nat} (h : l.length = n * 4) : choB P Q l = (allEl P Q l && inB (n : Int) 1 8) := by
  have h1 : decide (4 ≤ l.length ∧ l.length ≤ 32) = inB (n : Int) 1 8 := by
    rw [Bool.eq_iff_iff, decide_eq_true_eq, inB_true]; omega
  rw [choB, h1, Bool.and_comm]
theorem allEl_four {P Q p q r s : Int} {rest : List Int} : allEl P Q (p :: q :: r :: s :: rest) = (allEl P Q [p, q, r, s] && allEl P Q rest) := by
  simp [allEl, Bool.and_assoc]
set_option maxRecDepth 100000 in
set_option maxHeartbeats 3200000 in
theorem sAll_any (P Q G : Int) (hm : Mo P Q) {B : Nat} {u : Value} {l : List Int} {w : World} (hz : InE B w u l) (hl : l.length ≤ 17592186044416) :
    Calls Try.prog 67 #[gv P Q G, u] w (EqOut (.bool (choB P Q l)) w) := by
  obtain ⟨ad, n, cap, rfl, hn, hi, _⟩ := hz.shape
  have HN := Lib.hid hn
  have hnl : n ≤ 17592186044416 := by omega
  have hB := ba w (.cells #[.int .i64 P, .int .i64 Q, .int .i64 G] 32)
  have HB_0 := Lib.hid hB
  have G_0 := Lib.hid (gr_new w P Q G 32)
  have HI := Lib.hid (hi.below hB (Nat.le_refl _))
  obtain ⟨r, hr⟩ : ∃ r, choB P Q l = r := ⟨_, rfl⟩
  have HR := Lib.hid (show r = (allEl P Q l && inB (n : Int) 1 8) from hr ▸ choB_eq hn)
  rw [hr]
  clear hn hi hz hB hr hl
  obtain ⟨g0, g1, g2⟩ := G_0.out
  go_enter Try.func67, Try.ntmps67
  go_wp2_with fail
  generalize hW : w.alloc (.cells #[.int .i64 P, .int .i64 Q, .int .i64 G] 32) = W at *
  clear g0 g1 g2
  go_loopw [6, 9] (fun _ K wr => ∃ k : Nat, k ≤ n ∧ K = .int .i64 k ∧ r = (allEl P Q (l.drop (k * 4)) && inB (n : Int) 1 8) ∧ Below W.heap.size W wr) (fun _ K _ => n - (intOf K).toNat)
  case atStart => exact ⟨0, Nat.zero_le _, rfl, HR.out, Below.refl _ _⟩
  case round =>
    obtain ⟨k, hk, rfl, hrk, hbel⟩ := hrel
    have HRK := Lib.hid hrk
    have HB := Lib.hid hbel
    have G_1 := Lib.hid (G_0.out.below hbel)
    clear hrk hbel
    by_cases hkn : k < n
    · obtain ⟨b, off, x, y, z, t, rfl, hb, hc1, hc2, hc3, hc4, hd⟩ := ints_quad (HI.out.below HB.out (Nat.le_refl _)) hkn HN.out
      have hst : r = (allEl P Q [x, y, z, t] && (allEl P Q (l.drop ((k + 1) * 4)) && inB (n : Int) 1 8)) := by
        rw [HRK.out, hd, allEl_four, Bool.and_assoc]
      have HST := Lib.hid hst
      clear hst hd
      have G_2 := Lib.hid (G_1.out.below (ba wr (.cells #[.int .i64 x, .int .i64 y, .int .i64 z, .int .i64 t] 47)))
      have HB2 := Lib.hid (bt HB.out (ba wr (.cells #[.int .i64 x, .int .i64 y, .int .i64 z, .int .i64 t] 47)))
      obtain ⟨g0, g1, g2⟩ := G_2.out
      cases h4 : allEl P Q [x, y, z, t]
      · obtain rfl : r = false := HST.out.trans (by rw [h4]; rfl)
        have H4 := Lib.hid h4
        clear h4
        go_wp2_with fail
        refine (sElements_any P Q G x y z t hm _).mono ?_
        rw [H4.out]
        rintro e w3 ⟨rfl, hb3⟩
        have HB3 := Lib.hid (bt HB_0.out (bt HB2.out hb3))
        clear hb3
        go_wp2
        go_ret
        exact ⟨rfl, HB3.out⟩
      · have HN4 := Lib.hid (HST.out.trans (by rw [h4, Bool.true_and]))
        have H4 := Lib.hid h4
        clear h4
        go_wp2_with fail
        refine (sElements_any P Q G x y z t hm _).mono ?_
        rw [H4.out]
        rintro e w3 ⟨rfl, hb3⟩
        have HB3 := Lib.hid (bt HB2.out hb3)
        clear hb3 g0 g1 g2
        go_wp2_with fail
        go_roundw
        case rel => exact ⟨k + 1, by omega, by go_num, HN4.out, HB3.out⟩
        case measure => simp only [intOf]; omega
    · obtain rfl : k = n := by omega
      obtain rfl : r = inB (k : Int) 1 8 := by
        rw [HRK.out, List.drop_of_length_le (by have := HN.out; omega)]; rfl
      have HBF := Lib.hid (bt HB_0.out HB.out)
      go_wp2_with fail
      refine (l1In_any _ 1 8 _).mono ?_
      rintro e w3 ⟨rfl, rfl⟩
      go_wp2
      go_ret
      exact ⟨rfl, HBF.out⟩

set_option maxRecDepth 100000 in
set_option maxHeartbeats 3200000 in
theorem verifyOneOf_any (P Q G : Int) (s : ByteArray) (hs : s.size ≤ 1048576) {B1 : Nat} {u1 : Value} {es : List Int} (hl : es.length ≤ 17592186044416) {B : Nat} {v : Value} {p : PrD} (hpn : p.n ≤ 1048576) {w : World} (hu1 : InE B1 w u1 es) (hP : InP B w v p) :
    Calls Try.prog 34 #[gv P Q G, .string s, u1, v] w (EqOut (.tuple #[.bool (vrV P Q G s (St.cho es) p), .bool (vrB P Q G s (St.cho es))]) w) := by
  obtain ⟨y1, yn, y2, rfl, _, _, _⟩ := hu1.shape
  obtain ⟨a1, c1, a2, c2, a3, c3, rfl, _, _, _⟩ := hP.parts
  have hal := ba (w.alloc (.cells #[.int .i64 P, .int .i64 Q, .int .i64 G] 32)) (.cells #[.slice a1 p.c.length c1, .slice a2 p.h.length c2, .slice a3 p.r.length c3] 36)
  have HB_0 := Lib.hid (bt (ba w (.cells #[.int .i64 P, .int .i64 Q, .int .i64 G] 32)) hal)
  have G_0 := Lib.hid (GR.below (gr_new w P Q G 32) hal)
  have hv := b3_new (w.alloc (.cells #[.int .i64 P, .int .i64 Q, .int .i64 G] 32)) (.slice a1 p.c.length c1) (.slice a2 p.h.length c2) (.slice a3 p.r.length c3) 36
  rw [show (w.alloc (.cells #[.int .i64 P, .int .i64 Q, .int .i64 G] 32)).heap.size = w.heap.size + 1 by simp] at hv
  have V_0 := Lib.hid hv
  have P_0 := Lib.hid (hP.below HB_0.out)
  have M_0 := Lib.hid (hu1.below HB_0.out)
  clear hal hv hP hu1
  obtain ⟨gG0, gG1, gG2⟩ := G_0.out
  obtain ⟨bV0, bV1, bV2, _⟩ := V_0.out
  go_enter Try.func34, Try.ntmps34
  go_wp2_with fail
  refine (verifyCho_any P Q G s hs hl hpn M_0.out P_0.out).mono ?_
  rintro e v9 ⟨rfl, hb⟩
  have HB_9 := Lib.hid (bt HB_0.out hb)
  clear hb
  go_wp2
  go_ret2
  exact ⟨rfl, HB_9.out⟩

set_option maxRecDepth 100000 in
set_option maxHeartbeats 3200000 in
theorem sJoint_any (P Q G : Int) (hg : goodB P Q G = true) (s : ByteArray) (hs : s.size ≤ 1000000) {B C : Nat} {u t : Value} {l cm : List Int} {w : World} (hl : l.length ≤ 32) (hle : allEl P Q l = true) (hcl : cm.length ≤ 1048576) (hce : allEl P Q cm = true) (hz : InE B w u l) (hc : InI C w t cm) :
    Calls Try.prog 104 #[gv P Q G, .string s, u, t] w (EqOut (.int .i64 (chX P Q G s (l ++ cm))) w) := by
  obtain ⟨ad, n, cap, rfl, hn, hi, _⟩ := hz.shape
  obtain ⟨b2, d2, rfl⟩ := hc.shape
  obtain ⟨i0, hi0, hz0, hz1, hz2⟩ := info_parts Try.info3
  have hgr := good_rng hg
  have hP0 := hgr.1
  have hQ2 := hgr.2.1
  have hG0 := hgr.2.2
  have HN := Lib.hid hn
  have hnl : n ≤ 8 := by omega
  have hB := ba w (.cells #[.int .i64 P, .int .i64 Q, .int .i64 G] 32)
  have HB_0 := Lib.hid hB
  have G_0 := Lib.hid (gr_new w P Q G 32)
  have HI := Lib.hid (hi.below hB (Nat.le_refl _))
  have HDIG := Lib.hid (show ∀ z ∈ l ++ cm, 0 ≤ z ∧ z ≤ 4611686018427387903 from by
    intro z hz
    have h9 : 0 ≤ z ∧ z < P := by
      rcases List.mem_append.1 hz with h | h
      · exact all_rng hle z h
      · exact all_rng hce z h
    exact ⟨h9.1, by omega⟩)
  obtain ⟨ch, hchx⟩ : ∃ ch, chX P Q G s (l ++ cm) = ch := ⟨_, rfl⟩
  have HCHX := Lib.hid hchx
  rw [hchx]
  generalize hnc : cm.length = nc at hcl hc ⊢
  have HNC := Lib.hid hnc
  have C_0 := Lib.hid (hc.below hB)
  clear hn hi hz hB hchx hc hnc hl hle hce hgr
  obtain ⟨g0, g1, g2⟩ := G_0.out
  go_enter Try.func104, Try.ntmps104
  go_wp2_with fail
  generalize hW : w.alloc (.cells #[.int .i64 P, .int .i64 Q, .int .i64 G] 32) = W at *
  clear g0 g1 g2 hW
  go_loopw [9, 14] (fun V K wr => ∃ (k : Nat) (va : Option Addr) (vc : Nat), k ≤ n ∧ K = .int .i64 k ∧ V = .slice va (k * 4) vc ∧ wr.ownsRow W.heap.size 3 1 (.slice va (k * 4) vc) (k * 4) ((l.take (k * 4)).map (Value.int .i64)) ∧ Below W.heap.size W wr) (fun _ K _ => n - (intOf K).toNat)
  case atStart => exact ⟨0, none, 0, Nat.zero_le _, rfl, rfl, by simpa using World.ownsRow_nil _ _ _ _, Below.refl _ _⟩
  case round =>
    obtain ⟨k, va, vc, hk, rfl, rfl, hown, hbel⟩ := hrel
    have HO := Lib.hid hown
    have HB := Lib.hid hbel
    clear hown hbel
    by_cases hkn : k < n
    · obtain ⟨b, off, x, y, z, r, rfl, hb, hc1, hc2, hc3, hc4, hd⟩ := ints_quad (HI.out.below HB.out (Nat.le_refl _)) hkn HN.out
      have ht : l.take ((k + 1) * 4) = l.take (k * 4) ++ [x, y, z, r] := by
        rw [show (k + 1) * 4 = k * 4 + 4 by omega, List.take_add, hd]; rfl
      have HT := Lib.hid ht
      clear ht hd
      obtain ⟨W1, hW1⟩ : ∃ W1, W1 = wr.alloc (.cells #[.int .i64 x, .int .i64 y, .int .i64 z, .int .i64 r] 47) := ⟨_, rfl⟩
      have hb1 : Below wr.heap.size wr W1 := by rw [hW1]; exact ba wr _
      have hb2 : Below wr.heap.size wr (W1.alloc (.cells #[.int .i64 x, .int .i64 y, .int .i64 z, .int .i64 r] 3)) := bt hb1 (ba W1 _)
      have HO2 := Lib.hid (own_below HO.out hb2)
      have HB2 := Lib.hid (HB.out.trans (hb2.mono HB.out.size))
      have hv := v4_new wr x y z r 47
      rw [← hW1] at hv
      obtain ⟨e0, e1, e2, e3⟩ := hv
      have hsz : wr.heap.size + 1 = W1.heap.size := by rw [hW1]; simp
      have HSZ := Lib.hid hsz
      clear hb1 hb2 hsz
      have hW1' := hW1.symm
      clear hW1
      go_wp2_with (at_builtin; refine wpList_append_ints rfl _ _ 25 rfl W.heap.size 3 i0 Try.underlying25 hi0 hz0 hz1 hz2 _ (k * 4) (l.take (k * 4)) rfl HO2.out _ 4 4 [x, y, z, r] rfl rfl (ints_spot W1 _ rfl [x, y, z, r] 3) (fun h => by cases h) (by omega) HB2.out.size ?_)
      intro v' w3 hown3 hgrow
      obtain ⟨va', vc', rfl⟩ := own_shape hown3
      have HO3 := Lib.hid (show w3.ownsRow W.heap.size 3 1 (.slice va' ((k + 1) * 4) vc') ((k + 1) * 4) ((l.take ((k + 1) * 4)).map (Value.int .i64)) from by
        rw [HT.out, show (k + 1) * 4 = k * 4 + 4 by omega]; first | exact hown3 | simpa using hown3)
      have HB3 := Lib.hid (HB2.out.grown hgrow HB2.out.size (fun q hq => (HO2.out.lt q hq).1))
      clear hown3 hgrow hW1' e0 e1 e2 e3
      go_wp2_with fail
      go_roundw
      case rel => exact ⟨k + 1, va', vc', by omega, by go_num, by rw [show (k + 1) * 4 = k * 4 + 4 by omega], HO3.out, HB3.out⟩
      case measure => simp only [intOf]; omega
    · obtain rfl : k = n := by omega
      have h := HO.out
      rw [List.take_of_length_le (by have := HN.out; omega)] at h
      have HO1 := Lib.hid (show wr.drew.ownsRow W.heap.size 3 1 (.slice va (k * 4) vc) (k * 4) (l.map (Value.int .i64)) from h)
      clear h
      have C_1 := Lib.hid (C_0.out.below (bt HB.out (Below.refl _ wr).drew))
      have HBD := Lib.hid (bt HB.out (Below.refl _ wr).drew)
      have hsz := HBD.out.size
      have G_1 := Lib.hid (G_0.out.below HB.out)
      obtain ⟨g0, g1, g2⟩ := G_1.out
      go_wp2_with fail
      go_region_held3 (fun w' => w'.cell? ⟨w.heap.size, 0, none⟩ = some (.int .i64 P) ∧ w'.cell? ⟨w.heap.size, 1, none⟩ = some (.int .i64 Q) ∧ w'.cell? ⟨w.heap.size, 2, none⟩ = some (.int .i64 G)) (first | with_reducible exact ⟨x0, x1, x2⟩ | with_reducible exact ⟨y0, y1, y2⟩ | exact ⟨g0, g1, g2⟩) ((first
        | (go_at_call 94; refine (hChallenge_any P Q G hP0 hQ2 hG0 s hs _ _ _ (l ++ cm) HII.out.2.1 (by omega) HII.out.2.2.1 HDIG.out _ HII.out.1).mono ?_; rw [HCHX.out]; rintro e v4 ⟨rfl, hb⟩; have HB4 := Lib.hid (bt HB3.out hb); obtain ⟨y0, y1, y2⟩ := G_3.out.below hb; clear hb)
        | (refine step_append_ints (by rfl) _ _ _ (by rfl) W.heap.size 3 i0 Try.underlying25 hi0 hz0 hz1 hz2 _ (k * 4) l (by rfl) HO1.out b2 nc d2 cm (by rfl) HNC.out (C_1.out.ints).1 (C_1.out.ints).2.2.1 (by omega) hsz ?_; intro v' w3 hown hgrow; obtain ⟨va', vc', rfl⟩ := own_shape hown; have HB3 := Lib.hid (HBD.out.grown hgrow hsz (fun q hq => (HO1.out.lt q hq).1)); have HII := Lib.hid ((owI_mk hown HB3.out.size).toIn.ints); have G_3 := Lib.hid (G_0.out.below HB3.out); obtain ⟨x0, x1, x2⟩ := G_3.out; clear hown hgrow)
        | fail))
      all_goals (
        go_wp2
        go_ret
        exact ⟨rfl, bt HB_0.out HB4.out⟩)

end Go.Proofs.Ytinmpookknpmlaa

