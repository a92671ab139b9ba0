/- Sigma proofs: ProveLinear, ProveKnowledge, ProveEqual of the program. -/
import Derived.Test.YtdaekpfngphefaaSigW
import Derived.Test.YtdaekpfngphefaaSigV
namespace Go.Proofs.Ytdaekpfngphefaa
open Go.RowKit
set_option linter.unusedVariables false
set_option linter.unusedSimpArgs false

theorem pl_off {P Q G : Int} {s : ByteArray} {rows : List (List Int)} {xs cs : List Int} (h : plB P Q G s rows xs cs = false) : plV P Q G s rows xs cs = nilP := by simp [plV, h]
theorem pl_on {P Q G : Int} {s : ByteArray} {rows : List (List Int)} {xs cs : List Int} (h : plB P Q G s rows xs cs = true) : plV P Q G s rows xs cs = cplP P Q G s (.lin rows (imgs P rows xs)) [0] cs 0 xs := by
  rw [cpl_lin h]; simp [plV, h]
theorem plB_size {P Q G : Int} {s : ByteArray} {rows : List (List Int)} {xs cs : List Int} (h : 40 < s.size) : plB P Q G s rows xs cs = false := by
  rw [← Bool.not_eq_true]; intro h'; have := (plB_true.1 h').2.2.2; omega
set_option maxRecDepth 100000 in
set_option maxHeartbeats 3200000 in
theorem provL_any (P Q G : Int) (s : ByteArray) (hs : s.size ≤ 1048576) {B C D : Nat} {v u x : Value} {rows : List (List Int)} {xs cs : List Int} (hl : rows.length ≤ 1048576) (hr : ∀ z ∈ rows, z.length ≤ 17592186044416) (hxl : xs.length ≤ 1048576) (hcl : cs.length ≤ 1048576) {w : World} (hz : InS B w v rows) (hx : InI C w u xs) (hc : InI D w x cs) :
    Calls Try.prog 37 #[gv P Q G, .string s, v, u, x] w (AnsQ w.heap.size w (plV P Q G s rows xs cs) (plB P Q G s rows xs cs)) := by
  obtain ⟨ad, cap, rfl⟩ := hz.shape
  obtain ⟨ad2, cap2, rfl⟩ := hx.shape
  obtain ⟨ad3, cap3, rfl⟩ := hc.shape
  have HRL := Lib.hid hr
  have G_0 := Lib.hid ((gr_new w P Q G 32).below (ba _ (.cells #[.slice none 0 0, .slice none 0 0, .slice none 0 0] 36)))
  have hb3 := b3_new (w.alloc (.cells #[.int .i64 P, .int .i64 Q, .int .i64 G] 32)) (.slice none 0 0) (.slice none 0 0) (.slice none 0 0) 36
  rw [show (w.alloc (.cells #[.int .i64 P, .int .i64 Q, .int .i64 G] 32)).heap.size = w.heap.size + 1 by simp] at hb3
  have Z_0 := Lib.hid hb3
  have HB_0 := Lib.hid (bt (ba w (.cells #[.int .i64 P, .int .i64 Q, .int .i64 G] 32)) (ba _ (.cells #[.slice none 0 0, .slice none 0 0, .slice none 0 0] 36)))
  have M_0 := Lib.hid (hz.below HB_0.out)
  have X_0 := Lib.hid (hx.below HB_0.out)
  have C_0 := Lib.hid (hc.below HB_0.out)
  have hzle := hz.le
  have hxle := hx.le
  have hcle := hc.le
  clear hr hb3 hz hx hc
  cases h0 : imB P Q G rows xs
  · have E1 := Lib.hid (show plB P Q G s rows xs cs = false by simp [plB, h0])
    rw [E1.out, pl_off E1.out]
    have K0 := Lib.hid h0
    clear h0
    obtain ⟨g0, g1, g2⟩ := G_0.out
    obtain ⟨y0, y1, y2, yf⟩ := Z_0.out
    have yf0 := yf 0
    have yf1 := yf 1
    have yf2 := yf 2
    go_enter Try.func37, Try.ntmps37
    go_wp2_with fail
    refine (imagesOfB_any P Q G hl HRL.out hxl M_0.out X_0.out).mono ?_
    rw [K0.out]
    rintro e v1 ⟨vi, rfl, hoi, hb⟩
    obtain ⟨via, vic, rfl⟩ := hoi.toIn.shape
    have HB_1 := Lib.hid (bt HB_0.out hb)
    have G_1 := Lib.hid (G_0.out.below hb)
    have Z_1 := Lib.hid (Z_0.out.below hb)
    have M_1 := Lib.hid (M_0.out.below hb)
    have X_1 := Lib.hid (X_0.out.below hb)
    have C_1 := Lib.hid (C_0.out.below hb)
    clear hb g0 g1 g2 y0 y1 y2 yf yf0 yf1 yf2
    obtain ⟨g0, g1, g2⟩ := G_1.out
    obtain ⟨y0, y1, y2, yf⟩ := Z_1.out
    have yf0 := yf 0
    have yf1 := yf 1
    have yf2 := yf 2
    clear hoi
    go_wp2
    (try simp only [Exit.inBlock, Exit.then])
    refine bodyPost_ret (v := .tuple #[.agg #[.slice none 0 0, .slice none 0 0, .slice none 0 0], .bool false]) ?_ rfl ?_
    · rw [results_cell_tmp rfl]; go_simp
    · have hm5 := mid3 v1 (w.heap.size + 1) (.slice none 0 0) (.slice none 0 0) (.slice none 0 0)
      exact ⟨_, _, _, rfl, owQ_nil _ _ (Nat.le_trans HB_1.out.size hm5.size), HB_1.out.trans (hm5.toBelow (by omega) HB_1.out.size)⟩
  obtain ⟨hgd, hrb, hxw, hxi⟩ := imB_true.1 h0
  obtain ⟨hr1, hr2, hr3⟩ := rowsB_true.1 hrb
  have KI := Lib.hid (im_on h0)
  have K0 := Lib.hid h0
  by_cases h1 : ¬ cs.length = xs.length
  · have E1 := Lib.hid (show plB P Q G s rows xs cs = false by simp [plB, h1])
    rw [E1.out, pl_off E1.out]
    have B1 : ((cs.length : Int) != (xs.length : Int)) = true := by simp; omega
    clear h0 h1 hxw hrb
    obtain ⟨g0, g1, g2⟩ := G_0.out
    obtain ⟨y0, y1, y2, yf⟩ := Z_0.out
    have yf0 := yf 0
    have yf1 := yf 1
    have yf2 := yf 2
    go_enter Try.func37, Try.ntmps37
    go_wp2_with fail
    refine (imagesOfB_any P Q G hl HRL.out hxl M_0.out X_0.out).mono ?_
    rw [K0.out, KI.out]
    rintro e v1 ⟨vi, rfl, hoi, hb⟩
    obtain ⟨via, vic, rfl⟩ := hoi.toIn.shape
    have HB_1 := Lib.hid (bt HB_0.out hb)
    have G_1 := Lib.hid (G_0.out.below hb)
    have Z_1 := Lib.hid (Z_0.out.below hb)
    have M_1 := Lib.hid (M_0.out.below hb)
    have X_1 := Lib.hid (X_0.out.below hb)
    have C_1 := Lib.hid (C_0.out.below hb)
    clear hb g0 g1 g2 y0 y1 y2 yf yf0 yf1 yf2
    obtain ⟨g0, g1, g2⟩ := G_1.out
    obtain ⟨y0, y1, y2, yf⟩ := Z_1.out
    have yf0 := yf 0
    have yf1 := yf 1
    have yf2 := yf 2
    have I_1 := Lib.hid hoi
    clear hoi
    go_wp2
    (try simp only [Exit.inBlock, Exit.then])
    refine bodyPost_ret (v := .tuple #[.agg #[.slice none 0 0, .slice none 0 0, .slice none 0 0], .bool false]) ?_ rfl ?_
    · rw [results_cell_tmp rfl]; go_simp
    · have hm5 := mid3 v1 (w.heap.size + 1) (.slice none 0 0) (.slice none 0 0) (.slice none 0 0)
      exact ⟨_, _, _, rfl, owQ_nil _ _ (Nat.le_trans HB_1.out.size hm5.size), HB_1.out.trans (hm5.toBelow (by omega) HB_1.out.size)⟩
  have h1 := Decidable.not_not.1 h1
  have B1 : ((cs.length : Int) != (xs.length : Int)) = false := by simp; omega
  cases h2 : allIn cs 0 (Q - 1)
  · have E1 := Lib.hid (show plB P Q G s rows xs cs = false by simp [plB, h2])
    rw [E1.out, pl_off E1.out]
    have K2 := Lib.hid (show exsB Q cs = false from (exsB'_all (by omega)).trans h2)
    clear h0 h1 h2 hxw hrb
    obtain ⟨g0, g1, g2⟩ := G_0.out
    obtain ⟨y0, y1, y2, yf⟩ := Z_0.out
    have yf0 := yf 0
    have yf1 := yf 1
    have yf2 := yf 2
    go_enter Try.func37, Try.ntmps37
    go_wp2_with fail
    refine (imagesOfB_any P Q G hl HRL.out hxl M_0.out X_0.out).mono ?_
    rw [K0.out, KI.out]
    rintro e v1 ⟨vi, rfl, hoi, hb⟩
    obtain ⟨via, vic, rfl⟩ := hoi.toIn.shape
    have HB_1 := Lib.hid (bt HB_0.out hb)
    have G_1 := Lib.hid (G_0.out.below hb)
    have Z_1 := Lib.hid (Z_0.out.below hb)
    have M_1 := Lib.hid (M_0.out.below hb)
    have X_1 := Lib.hid (X_0.out.below hb)
    have C_1 := Lib.hid (C_0.out.below hb)
    clear hb g0 g1 g2 y0 y1 y2 yf yf0 yf1 yf2
    obtain ⟨g0, g1, g2⟩ := G_1.out
    obtain ⟨y0, y1, y2, yf⟩ := Z_1.out
    have yf0 := yf 0
    have yf1 := yf 1
    have yf2 := yf 2
    have I_1 := Lib.hid hoi
    clear hoi
    go_wp2_with fail
    refine (areExponents_any P Q G _ _ _ cs rfl (by omega) _ (C_1.out.ints).1).mono ?_
    rw [K2.out]
    rintro e v2 ⟨rfl, hb⟩
    have hI2 := I_1.out.below hb
    have HB_2 := Lib.hid (bt HB_1.out hb)
    have G_2 := Lib.hid (G_1.out.below hb)
    have Z_2 := Lib.hid (Z_1.out.below hb)
    have M_2 := Lib.hid (M_1.out.below hb)
    have X_2 := Lib.hid (X_1.out.below hb)
    have C_2 := Lib.hid (C_1.out.below hb)
    clear hb g0 g1 g2 y0 y1 y2 yf yf0 yf1 yf2
    obtain ⟨g0, g1, g2⟩ := G_2.out
    obtain ⟨y0, y1, y2, yf⟩ := Z_2.out
    have yf0 := yf 0
    have yf1 := yf 1
    have yf2 := yf 2
    have I_2 := Lib.hid hI2
    clear hI2
    go_wp2
    (try simp only [Exit.inBlock, Exit.then])
    refine bodyPost_ret (v := .tuple #[.agg #[.slice none 0 0, .slice none 0 0, .slice none 0 0], .bool false]) ?_ rfl ?_
    · rw [results_cell_tmp rfl]; go_simp
    · have hm5 := mid3 v2 (w.heap.size + 1) (.slice none 0 0) (.slice none 0 0) (.slice none 0 0)
      exact ⟨_, _, _, rfl, owQ_nil _ _ (Nat.le_trans HB_2.out.size hm5.size), HB_2.out.trans (hm5.toBelow (by omega) HB_2.out.size)⟩
  have K2 := Lib.hid (show exsB Q cs = true from (exsB'_all (by omega)).trans h2)
  have hcp : 0 < cs.length := by omega
  have hgr := good_rng hgd
  have hst : (St.lin rows (imgs P rows xs)).ok P Q = true := by rw [lin_ok]; simp only [Bool.and_eq_true, decide_eq_true_eq]; exact ⟨hrb, imgs_length _ _ _, imgs_el h0⟩
  have hnc : nCols (St.lin rows (imgs P rows xs)).parts = cs.length := by simp [St.parts, nCols]; omega
  have H1 := Lib.hid h1
  have HNC := Lib.hid hnc
  have H2 := Lib.hid h2
  have HXI := Lib.hid hxi
  have HST := Lib.hid hst
  by_cases h3 : 40 < s.size
  · rw [plB_size h3, pl_off (plB_size h3)]
    clear h0 h1 h2 hxw hrb hnc hst hxi
    obtain ⟨g0, g1, g2⟩ := G_0.out
    obtain ⟨y0, y1, y2, yf⟩ := Z_0.out
    have yf0 := yf 0
    have yf1 := yf 1
    have yf2 := yf 2
    go_enter Try.func37, Try.ntmps37
    go_wp2_with fail
    refine (imagesOfB_any P Q G hl HRL.out hxl M_0.out X_0.out).mono ?_
    rw [K0.out, KI.out]
    rintro e v1 ⟨vi, rfl, hoi, hb⟩
    obtain ⟨via, vic, rfl⟩ := hoi.toIn.shape
    have HB_1 := Lib.hid (bt HB_0.out hb)
    have G_1 := Lib.hid (G_0.out.below hb)
    have Z_1 := Lib.hid (Z_0.out.below hb)
    have M_1 := Lib.hid (M_0.out.below hb)
    have X_1 := Lib.hid (X_0.out.below hb)
    have C_1 := Lib.hid (C_0.out.below hb)
    clear hb g0 g1 g2 y0 y1 y2 yf yf0 yf1 yf2
    obtain ⟨g0, g1, g2⟩ := G_1.out
    obtain ⟨y0, y1, y2, yf⟩ := Z_1.out
    have yf0 := yf 0
    have yf1 := yf 1
    have yf2 := yf 2
    have I_1 := Lib.hid hoi
    clear hoi
    go_wp2_with fail
    refine (areExponents_any P Q G _ _ _ cs rfl (by omega) _ (C_1.out.ints).1).mono ?_
    rw [K2.out]
    rintro e v2 ⟨rfl, hb⟩
    have hI2 := I_1.out.below hb
    have HB_2 := Lib.hid (bt HB_1.out hb)
    have G_2 := Lib.hid (G_1.out.below hb)
    have Z_2 := Lib.hid (Z_1.out.below hb)
    have M_2 := Lib.hid (M_1.out.below hb)
    have X_2 := Lib.hid (X_1.out.below hb)
    have C_2 := Lib.hid (C_1.out.below hb)
    clear hb g0 g1 g2 y0 y1 y2 yf yf0 yf1 yf2
    obtain ⟨g0, g1, g2⟩ := G_2.out
    obtain ⟨y0, y1, y2, yf⟩ := Z_2.out
    have yf0 := yf 0
    have yf1 := yf 1
    have yf2 := yf 2
    have I_2 := Lib.hid hI2
    clear hI2
    have hnl := (C_2.out.ints).2.2.1
    have hlit := ba v2 (.cells #[.int .i64 0] 3)
    have hci := ((C_2.out.below hlit).ints).1
    go_wp2_with fail
    refine (clone_any _ _ _ cs rfl (by omega) hnl _ hci).mono ?_
    rintro e v3 ⟨rc, rfl, ho, hb0⟩
    obtain ⟨gr, cr, rfl⟩ := ho.some hcp
    have hH := own_lit v2 [0] (by simp) 3
    have hs2 : (v2.alloc (.cells #[.int .i64 0] 3)).heap.size = v2.heap.size + 1 := by simp
    have hH2 : OwI v2.heap.size (v2.heap.size + 1) (v2.alloc (.cells #[.int .i64 0] 3)) (.slice (some ⟨v2.heap.size, 0, none⟩) ([0] : List Int).length 1) [0] := by rw [← hs2]; exact OwR.mk hH (by simp)
    rw [hs2] at ho
    have hH3 := hH2.below hb0
    have hal := ba v3 (.cells #[.slice none 0 0, .slice (some ⟨v2.heap.size, 0, none⟩) 1 1, .slice (some ⟨gr, 0, none⟩) cs.length cr] 36)
    have hb := bt (bt hlit hb0) hal
    have hsv : (v3.alloc (.cells #[.slice none 0 0, .slice (some ⟨v2.heap.size, 0, none⟩) 1 1, .slice (some ⟨gr, 0, none⟩) cs.length cr] 36)).heap.size = v3.heap.size + 1 := by simp
    have DV := Lib.hid (b3_new v3 (.slice none 0 0) (.slice (some ⟨v2.heap.size, 0, none⟩) 1 1) (.slice (some ⟨gr, 0, none⟩) cs.length cr) 36)
    have H_3 := Lib.hid (hH3.below hal)
    have ho2 := ho.below hal
    have R_3 := Lib.hid (ho2.wide (Nat.le_refl _) (show v3.heap.size ≤ (v3.alloc (.cells #[.slice none 0 0, .slice (some ⟨v2.heap.size, 0, none⟩) 1 1, .slice (some ⟨gr, 0, none⟩) cs.length cr] 36)).heap.size by omega) (Nat.le_refl _))
    have hI3 := I_2.out.below hb
    obtain ⟨V, hV⟩ : ∃ V, v3.alloc (.cells #[.slice none 0 0, .slice (some ⟨v2.heap.size, 0, none⟩) 1 1, .slice (some ⟨gr, 0, none⟩) cs.length cr] 36) = V := ⟨_, rfl⟩
    clear hlit hci hH hs2 hH2 hH3 ho ho2 hb0 hal hsv hnl
    rw [hV] at hb DV H_3 R_3 hI3
    have HB_3 := Lib.hid (bt HB_2.out hb)
    have G_3 := Lib.hid (G_2.out.below hb)
    have Z_3 := Lib.hid (Z_2.out.below hb)
    have M_3 := Lib.hid (M_2.out.below hb)
    have X_3 := Lib.hid (X_2.out.below hb)
    have C_3 := Lib.hid (C_2.out.below hb)
    clear hb g0 g1 g2 y0 y1 y2 yf yf0 yf1 yf2
    obtain ⟨g0, g1, g2⟩ := G_3.out
    obtain ⟨y0, y1, y2, yf⟩ := Z_3.out
    have yf0 := yf 0
    have yf1 := yf 1
    have yf2 := yf 2
    have I_3 := Lib.hid hI3
    clear hI3
    obtain ⟨d0, d1, d2, _⟩ := DV.out
    have hlz2 := Z_2.out.lt
    have hsz2 := HB_2.out.size
    have hsz1 := HB_1.out.size
    have hi1 := I_1.out.le
    have hi2 : v1.heap.size ≤ v2.heap.size := I_2.out.le
    have HC := Lib.hid (completeLin_off P Q G hgd s h3 hs (B3 := C) (base := v2.heap.size) (M := v2.heap.size + 1) (dh := [0]) (dr := cs) (xs := xs) HST.out M_3.out I_3.out.toIn ⟨by omega, hi2⟩ H_3.out R_3.out X_3.out (by omega) rfl HNC.out.symm (by simp [allIn, inB]; omega) H2.out HXI.out (by have := H1.out; omega) hcp)
    go_wp2_with fail
    clear hV
    refine HC.out.mono ?_
    rintro e v4 ⟨qa, qb, qc, rfl, hq, hb⟩
    obtain ⟨a1, c1, a2, c2, a3, c3, rfl, rfl, rfl⟩ := hq.shape
    have HB_4 := Lib.hid (HB_3.out.trans (hb.mono (by omega)))
    have hz4 := Z_3.out.belowB hb (by omega)
    have Z_4 := Lib.hid hz4
    have AQ := Lib.hid hq
    clear hq hz4 hb g0 g1 g2 y0 y1 y2 yf yf0 yf1 yf2 d0 d1 d2
    obtain ⟨y0, y1, y2, yf⟩ := Z_4.out
    have yf0 := yf 0
    have yf1 := yf 1
    have yf2 := yf 2
    clear yf
    go_wp2
    (try simp only [Exit.inBlock, Exit.then])
    refine bodyPost_ret (v := .tuple #[.agg #[.slice a1 nilP.c.length c1, .slice a2 nilP.h.length c2, .slice a3 nilP.r.length c3], .bool false]) ?_ rfl ?_
    · rw [results_cell_tmp rfl]; go_simp
    · have hm5 := mid3 v4 (w.heap.size + 1) (.slice a1 nilP.c.length c1) (.slice a2 nilP.h.length c2) (.slice a3 nilP.r.length c3)
      have h1 := AQ.out.mid hm5 (.inr (by omega))
      exact ⟨_, _, _, rfl, h1.wide (by omega) hm5.size (Nat.le_refl _), HB_4.out.trans (hm5.toBelow (by omega) HB_4.out.size)⟩
  have h3 : s.size ≤ 40 := by omega
  have E1 := Lib.hid (plB_true.2 ⟨h0, h1, h2, h3⟩)
  rw [E1.out, pl_on E1.out]
  obtain ⟨p, hp⟩ : ∃ p, cplP P Q G s (.lin rows (imgs P rows xs)) [0] cs 0 xs = p := ⟨_, rfl⟩
  have HP := Lib.hid hp
  rw [hp]
  clear hp h0 h1 h2 hxw hrb hnc hst hxi
  obtain ⟨g0, g1, g2⟩ := G_0.out
  obtain ⟨y0, y1, y2, yf⟩ := Z_0.out
  have yf0 := yf 0
  have yf1 := yf 1
  have yf2 := yf 2
  go_enter Try.func37, Try.ntmps37
  go_wp2_with fail
  refine (imagesOfB_any P Q G hl HRL.out hxl M_0.out X_0.out).mono ?_
  rw [K0.out, KI.out]
  rintro e v1 ⟨vi, rfl, hoi, hb⟩
  obtain ⟨via, vic, rfl⟩ := hoi.toIn.shape
  have HB_1 := Lib.hid (bt HB_0.out hb)
  have G_1 := Lib.hid (G_0.out.below hb)
  have Z_1 := Lib.hid (Z_0.out.below hb)
  have M_1 := Lib.hid (M_0.out.below hb)
  have X_1 := Lib.hid (X_0.out.below hb)
  have C_1 := Lib.hid (C_0.out.below hb)
  clear hb g0 g1 g2 y0 y1 y2 yf yf0 yf1 yf2
  obtain ⟨g0, g1, g2⟩ := G_1.out
  obtain ⟨y0, y1, y2, yf⟩ := Z_1.out
  have yf0 := yf 0
  have yf1 := yf 1
  have yf2 := yf 2
  have I_1 := Lib.hid hoi
  clear hoi
  go_wp2_with fail
  refine (areExponents_any P Q G _ _ _ cs rfl (by omega) _ (C_1.out.ints).1).mono ?_
  rw [K2.out]
  rintro e v2 ⟨rfl, hb⟩
  have hI2 := I_1.out.below hb
  have HB_2 := Lib.hid (bt HB_1.out hb)
  have G_2 := Lib.hid (G_1.out.below hb)
  have Z_2 := Lib.hid (Z_1.out.below hb)
  have M_2 := Lib.hid (M_1.out.below hb)
  have X_2 := Lib.hid (X_1.out.below hb)
  have C_2 := Lib.hid (C_1.out.below hb)
  clear hb g0 g1 g2 y0 y1 y2 yf yf0 yf1 yf2
  obtain ⟨g0, g1, g2⟩ := G_2.out
  obtain ⟨y0, y1, y2, yf⟩ := Z_2.out
  have yf0 := yf 0
  have yf1 := yf 1
  have yf2 := yf 2
  have I_2 := Lib.hid hI2
  clear hI2
  have hnl := (C_2.out.ints).2.2.1
  have hlit := ba v2 (.cells #[.int .i64 0] 3)
  have hci := ((C_2.out.below hlit).ints).1
  go_wp2_with fail
  refine (clone_any _ _ _ cs rfl (by omega) hnl _ hci).mono ?_
  rintro e v3 ⟨rc, rfl, ho, hb0⟩
  obtain ⟨gr, cr, rfl⟩ := ho.some hcp
  have hH := own_lit v2 [0] (by simp) 3
  have hs2 : (v2.alloc (.cells #[.int .i64 0] 3)).heap.size = v2.heap.size + 1 := by simp
  have hH2 : OwI v2.heap.size (v2.heap.size + 1) (v2.alloc (.cells #[.int .i64 0] 3)) (.slice (some ⟨v2.heap.size, 0, none⟩) ([0] : List Int).length 1) [0] := by rw [← hs2]; exact OwR.mk hH (by simp)
  rw [hs2] at ho
  have hH3 := hH2.below hb0
  have hal := ba v3 (.cells #[.slice none 0 0, .slice (some ⟨v2.heap.size, 0, none⟩) 1 1, .slice (some ⟨gr, 0, none⟩) cs.length cr] 36)
  have hb := bt (bt hlit hb0) hal
  have hsv : (v3.alloc (.cells #[.slice none 0 0, .slice (some ⟨v2.heap.size, 0, none⟩) 1 1, .slice (some ⟨gr, 0, none⟩) cs.length cr] 36)).heap.size = v3.heap.size + 1 := by simp
  have DV := Lib.hid (b3_new v3 (.slice none 0 0) (.slice (some ⟨v2.heap.size, 0, none⟩) 1 1) (.slice (some ⟨gr, 0, none⟩) cs.length cr) 36)
  have H_3 := Lib.hid (hH3.below hal)
  have ho2 := ho.below hal
  have R_3 := Lib.hid (ho2.wide (Nat.le_refl _) (show v3.heap.size ≤ (v3.alloc (.cells #[.slice none 0 0, .slice (some ⟨v2.heap.size, 0, none⟩) 1 1, .slice (some ⟨gr, 0, none⟩) cs.length cr] 36)).heap.size by omega) (Nat.le_refl _))
  have hI3 := I_2.out.below hb
  obtain ⟨V, hV⟩ : ∃ V, v3.alloc (.cells #[.slice none 0 0, .slice (some ⟨v2.heap.size, 0, none⟩) 1 1, .slice (some ⟨gr, 0, none⟩) cs.length cr] 36) = V := ⟨_, rfl⟩
  clear hlit hci hH hs2 hH2 hH3 ho ho2 hb0 hal hsv hnl
  rw [hV] at hb DV H_3 R_3 hI3
  have HB_3 := Lib.hid (bt HB_2.out hb)
  have G_3 := Lib.hid (G_2.out.below hb)
  have Z_3 := Lib.hid (Z_2.out.below hb)
  have M_3 := Lib.hid (M_2.out.below hb)
  have X_3 := Lib.hid (X_2.out.below hb)
  have C_3 := Lib.hid (C_2.out.below hb)
  clear hb g0 g1 g2 y0 y1 y2 yf yf0 yf1 yf2
  obtain ⟨g0, g1, g2⟩ := G_3.out
  obtain ⟨y0, y1, y2, yf⟩ := Z_3.out
  have yf0 := yf 0
  have yf1 := yf 1
  have yf2 := yf 2
  have I_3 := Lib.hid hI3
  clear hI3
  obtain ⟨d0, d1, d2, _⟩ := DV.out
  have hlz2 := Z_2.out.lt
  have hsz2 := HB_2.out.size
  have hsz1 := HB_1.out.size
  have hi1 := I_1.out.le
  have hi2 : v1.heap.size ≤ v2.heap.size := I_2.out.le
  have HC := Lib.hid (completeLin_any P Q G hgd s h3 (B3 := C) (base := v2.heap.size) (M := v2.heap.size + 1) (dh := [0]) (dr := cs) (xs := xs) HST.out M_3.out I_3.out.toIn ⟨by omega, hi2⟩ H_3.out R_3.out X_3.out (by omega) rfl HNC.out.symm (by simp [allIn, inB]; omega) H2.out HXI.out (by have := H1.out; omega) hcp)
  go_wp2_with fail
  clear hV
  refine HC.out.mono ?_
  rw [HP.out]
  rintro e v4 ⟨qa, qb, qc, rfl, hq, hb⟩
  obtain ⟨a1, c1, a2, c2, a3, c3, rfl, rfl, rfl⟩ := hq.shape
  have HB_4 := Lib.hid (HB_3.out.trans (hb.mono (by omega)))
  have hz4 := Z_3.out.belowB hb (by omega)
  have Z_4 := Lib.hid hz4
  have AQ := Lib.hid hq
  clear hq hz4 hb g0 g1 g2 y0 y1 y2 yf yf0 yf1 yf2 d0 d1 d2
  obtain ⟨y0, y1, y2, yf⟩ := Z_4.out
  have yf0 := yf 0
  have yf1 := yf 1
  have yf2 := yf 2
  clear yf
  go_wp2
  (try simp only [Exit.inBlock, Exit.then])
  refine bodyPost_ret (v := .tuple #[.agg #[.slice a1 p.c.length c1, .slice a2 p.h.length c2, .slice a3 p.r.length c3], .bool true]) ?_ rfl ?_
  · rw [results_cell_tmp rfl]; go_simp
  · have hm5 := mid3 v4 (w.heap.size + 1) (.slice a1 p.c.length c1) (.slice a2 p.h.length c2) (.slice a3 p.r.length c3)
    have h1 := AQ.out.mid hm5 (.inr (by omega))
    exact ⟨_, _, _, rfl, h1.wide (by omega) hm5.size (Nat.le_refl _), HB_4.out.trans (hm5.toBelow (by omega) HB_4.out.size)⟩

end Go.Proofs.Ytdaekpfngphefaa

/- Sigma proofs: a linear statement is proved by the reference. -/
namespace Go.Proofs.Ytdaekpfngphefaa
open Go.RowKit
set_option linter.unusedVariables false
set_option linter.unusedSimpArgs false

set_option maxRecDepth 100000 in
set_option maxHeartbeats 3200000 in
theorem sProve_any (P Q G : Int) (hg : goodB P Q G = true) (s : ByteArray) (hs : s.size ≤ 1000000) {B C D : Nat} {v u t : Value} {rows : List (List Int)} {xs cs : List Int} (hl : rows.length ≤ 8) (h8 : xs.length ≤ 8) (hr : ∀ z ∈ rows, z.length = xs.length ∧ allEl P Q z = true) (hcl : cs.length = xs.length) (hxi : allIn xs 0 (Q - 1) = true) (hci : allIn cs 0 (Q - 1) = true) {w : World} (hz : InS B w v rows) (hx : InI C w u xs) (hc : InI D w t cs) :
    Calls Try.prog 72 #[gv P Q G, .string s, v, u, t] w (MadeP w (spP P Q G s rows xs cs)) := by
  obtain ⟨ad, cap, rfl⟩ := hz.shape
  obtain ⟨ad2, cap2, rfl⟩ := hx.shape
  obtain ⟨ad3, cap3, rfl⟩ := hc.shape
  have hgr := good_rng hg
  have hmo := good_mo hg
  have hzle := hz.le
  have hxle := hx.le
  have hcle := hc.le
  have hr2 : ∀ z ∈ rows, z.length = cs.length ∧ allEl P Q z = true := fun z hz => ⟨by rw [(hr z hz).1, hcl], (hr z hz).2⟩
  have hic : allEl P Q (imgs P rows cs) = true := imgs_all hg (fun r h => (hr r h).2) hci
  have hix : allEl P Q (imgs P rows xs) = true := imgs_all hg (fun r h => (hr r h).2) hxi
  have hfl : allEl P Q rows.flatten = true := flat_el (fun r h => (hr r h).2)
  have hns : nS rows ≤ 64 := by rw [flat_len (fun r h => (hr r h).1)]; exact Nat.mul_le_mul hl h8
  obtain ⟨lst, hlst⟩ : ∃ l, rows.flatten ++ imgs P rows xs ++ imgs P rows cs = l := ⟨_, rfl⟩
  have hle : allEl P Q lst = true := by rw [← hlst]; exact all_app (all_app hfl hix) hic
  have hll : lst.length ≤ 80 := by rw [← hlst]; simp only [List.length_append, imgs_length, nS_flat]; omega
  have hdig : ∀ z ∈ lst, 0 ≤ z ∧ z ≤ 4611686018427387903 := fun z hz => by have := all_rng hle z hz; have := hmo.1; omega
  obtain ⟨ch, hch⟩ : ∃ c, chX P Q G s lst = c := ⟨_, rfl⟩
  have hcr : 0 ≤ ch ∧ ch < Q := hch ▸ chX_rng (by omega)
  have hsp : spP P Q G s rows xs cs = ⟨imgs P rows cs, [ch], sxpy Q cs ch xs⟩ := by unfold spP; rw [hlst, hch]
  rw [hsp]
  obtain ⟨ic, hicn⟩ : ∃ l, imgs P rows cs = l := ⟨_, rfl⟩
  obtain ⟨ix, hixn⟩ : ∃ l, imgs P rows xs = l := ⟨_, rfl⟩
  have hil : ic.length = rows.length ∧ ix.length = rows.length := ⟨by rw [← hicn, imgs_length], by rw [← hixn, imgs_length]⟩
  rw [hicn, hixn] at hlst
  rw [hicn]
  have HIC := Lib.hid hicn
  have HIX := Lib.hid hixn
  have HLST := Lib.hid hlst
  have HCH := Lib.hid hch
  have HR := Lib.hid hr
  have HR2 := Lib.hid hr2
  have HXI := Lib.hid hxi
  have HCI := Lib.hid hci
  have HDIG := Lib.hid hdig
  have HCL := Lib.hid hcl
  have HIL := Lib.hid hil
  have HXR := Lib.hid (all_ex hxi)
  have HCR := Lib.hid (all_ex hci)
  have hP2 : 2 ≤ P ∧ P ≤ 2000000000 := hmo.1
  have G_0 := Lib.hid ((gr_new w P Q G 32).below (ba _ (.cells #[.slice none 0 0, .slice none 0 0, .slice none 0 0] 36)))
  have hb3 := b3_new (w.alloc (.cells #[.int .i64 P, .int .i64 Q, .int .i64 G] 32)) (.slice none 0 0) (.slice none 0 0) (.slice none 0 0) 36
  rw [show (w.alloc (.cells #[.int .i64 P, .int .i64 Q, .int .i64 G] 32)).heap.size = w.heap.size + 1 by simp] at hb3
  have Z_0 := Lib.hid hb3
  have HB_0 := Lib.hid (bt (ba w (.cells #[.int .i64 P, .int .i64 Q, .int .i64 G] 32)) (ba _ (.cells #[.slice none 0 0, .slice none 0 0, .slice none 0 0] 36)))
  have M_0 := Lib.hid (hz.below HB_0.out)
  have X_0 := Lib.hid (hx.below HB_0.out)
  have C_0 := Lib.hid (hc.below HB_0.out)
  obtain ⟨i0, hi, hz0, hz1, hz2⟩ := info_parts Try.info3
  clear hr hr2 hxi hci hic hix hfl hlst hle hdig hch hsp hicn hixn hil hcl hb3 hz hx hc hg
  obtain ⟨g0, g1, g2⟩ := G_0.out
  go_enter Try.func72, Try.ntmps72
  go_wp2_with fail
  refine (sImages_any P Q G hP2 hgr.2.1 hl HR2.out HCI.out (by have := HCL.out; omega) M_0.out rfl (C_0.out.ints).1).mono ?_
  rw [HIC.out]
  rintro e v1 ⟨ca, rfl, ho, hb0⟩
  obtain ⟨caa, cac, rfl⟩ := ho.toIn.shape
  have hal := ba v1 (.cells #[.slice caa ic.length cac, .slice none 0 0, .slice none 0 0] 36)
  have hb := bt hb0 hal
  have HB_1 := Lib.hid (bt HB_0.out hb)
  have G_1 := Lib.hid (G_0.out.below hb)
  have Z_1 := Lib.hid (Z_0.out.below hb)
  have M_1 := Lib.hid (M_0.out.below hb)
  have X_1 := Lib.hid (X_0.out.below hb)
  have C_1 := Lib.hid (C_0.out.below hb)
  have V_1 := Lib.hid (b3_new v1 (.slice caa ic.length cac) (.slice none 0 0) (.slice none 0 0) 36)
  have hsz0 := HB_0.out.size
  have hsz1 : w.heap.size + 1 < v1.heap.size := by have := (Z_0.out.below hb0).lt; omega
  have hsa : (v1.alloc (.cells #[.slice caa ic.length cac, .slice none 0 0, .slice none 0 0] 36)).heap.size = v1.heap.size + 1 := by simp
  have O_1 := Lib.hid ((ho.wide (show w.heap.size + 1 + 1 ≤ ((w.alloc (.cells #[.int .i64 P, .int .i64 Q, .int .i64 G] 32)).alloc (.cells #[.slice none 0 0, .slice none 0 0, .slice none 0 0] 36)).heap.size from by simp) (Nat.le_refl _) (Nat.le_refl _)).below hal)
  clear ho hb0 hb g0 g1 g2
  obtain ⟨g0, g1, g2⟩ := G_1.out
  obtain ⟨p0, p1, p2, _⟩ := V_1.out
  go_wp2_with fail
  generalize hW : v1.alloc (.cells #[.slice caa ic.length cac, .slice none 0 0, .slice none 0 0] 36) = W at *
  clear hW
  go_region_held3 (fun w' => (w'.cell? ⟨w.heap.size, 0, none⟩ = some (.int .i64 P) ∧ w'.cell? ⟨w.heap.size, 1, none⟩ = some (.int .i64 Q) ∧ w'.cell? ⟨w.heap.size, 2, none⟩ = some (.int .i64 G)) ∧ w'.cell? ⟨v1.heap.size, 0, none⟩ = some (.slice caa ic.length cac)) (first | with_reducible exact ⟨⟨s0, s1, s2⟩, s3⟩ | with_reducible exact ⟨⟨t0, t1, t2⟩, t3⟩ | with_reducible exact ⟨⟨u0, u1, u2⟩, u3⟩ | exact ⟨⟨g0, g1, g2⟩, p0⟩) ((first
    | (go_at_call 77; refine (sImages_any P Q G hP2 hgr.2.1 hl HR.out HXI.out h8 M_1.out.dr rfl (X_1.out.dr.ints).1).mono ?_; rw [HIX.out]; rintro e v2 ⟨ia, rfl, ho, hb0⟩; have hb : Below W.heap.size W v2 := bt ((Below.refl _ W).drew) hb0; obtain ⟨iaa, iac, rfl⟩ := ho.toIn.shape; have HI2 := Lib.hid ho.toIn; have G_2 := Lib.hid (G_1.out.below hb); have V_2 := Lib.hid (V_1.out.below hb); have M_2 := Lib.hid (M_1.out.below hb); have O_2 := Lib.hid (O_1.out.below hb); have HW2 := Lib.hid hb; obtain ⟨s0, s1, s2⟩ := G_2.out; obtain ⟨s3, _, _, _⟩ := V_2.out; clear ho hb hb0)
    | (go_at_call 96; refine (sStatement_any hl (by omega) (by have := HIL.out; omega) (by have := HIL.out; omega) M_2.out HI2.out O_2.out.toIn).mono ?_; rw [HLST.out]; rintro e v3 ⟨la, rfl, ho, hb⟩; obtain ⟨laa, lac, rfl⟩ := ho.toIn.shape; have HL := Lib.hid ho.toIn; have G_3 := Lib.hid (G_2.out.below hb); have V_3 := Lib.hid (V_2.out.below hb); have HW3 := Lib.hid (bt HW2.out hb); obtain ⟨t0, t1, t2⟩ := G_3.out; obtain ⟨t3, _, _, _⟩ := V_3.out; clear ho hb)
    | (go_at_call 95; refine (hChallenge_any P Q G hgr.1 hgr.2.1 hgr.2.2 s hs _ _ _ lst rfl (by omega) (HL.out.ints).2.2.1 HDIG.out _ (HL.out.ints).1).mono ?_; rw [HCH.out]; rintro e v4 ⟨rfl, hb⟩; have HW4 := Lib.hid (bt HW3.out hb); obtain ⟨u0, u1, u2⟩ := G_3.out.below hb; obtain ⟨u3, _, _, _⟩ := V_3.out.below hb; clear hb)
    | fail))
  all_goals (
    clear s0 s1 s2 s3 t0 t1 t2 t3 u0 u1 u2 u3 g0 g1 g2 p0 p1 p2
    have hal2 := ba v4 (.cells #[.int .i64 ch] 3)
    have hs4 : (v4.alloc (.cells #[.int .i64 ch] 3)).heap.size = v4.heap.size + 1 := by simp
    have hb := bt HW4.out hal2
    have hsw : W.heap.size ≤ v4.heap.size := HW4.out.size
    have V_4 := Lib.hid (V_1.out.below hb)
    obtain ⟨p0, p1, p2, pf⟩ := V_4.out
    have pf1 := pf 1
    clear pf
    go_wp2_with fail
    have hm : Mid v1.heap.size (v1.heap.size + 1) (v4.alloc (.cells #[.int .i64 ch] 3)) ((v4.alloc (.cells #[.int .i64 ch] 3)).setCell ⟨v1.heap.size, 1, none⟩ (.slice (some ⟨v4.heap.size, 0, none⟩) 1 1)) := mid_cell _ _ _ _
    have hlit : OwI v4.heap.size (v4.heap.size + 1) (v4.alloc (.cells #[.int .i64 ch] 3)) (.slice (some ⟨v4.heap.size, 0, none⟩) ([ch] : List Int).length 1) [ch] := by rw [← hs4]; exact OwR.mk (own_lit v4 [ch] (by simp) 3) (by simp)
    have hHB : Below w.heap.size w (v4.alloc (.cells #[.int .i64 ch] 3)) := bt HB_1.out hb
    have G_5 := Lib.hid ((G_1.out.below hb).mid hm (.inl (by omega)))
    have Z_5 := Lib.hid ((Z_1.out.below hb).mid hm (.inl (by omega)))
    have X_5 := Lib.hid ((X_1.out.below hb).mid hm (by omega))
    have C_5 := Lib.hid ((C_1.out.below hb).mid hm (by omega))
    have O_5 := Lib.hid ((O_1.out.below hb).mid hm (.inl (by omega)))
    have H_5 := Lib.hid (hlit.mid hm (.inr (by omega)))
    have V_5 := Lib.hid (V_4.out.set1 (.slice (some ⟨v4.heap.size, 0, none⟩) 1 1))
    have HB_5 := Lib.hid (hHB.trans (hm.toBelow (by omega) hHB.size))
    have hs5 : v4.heap.size + 1 ≤ ((v4.alloc (.cells #[.int .i64 ch] 3)).setCell ⟨v1.heap.size, 1, none⟩ (.slice (some ⟨v4.heap.size, 0, none⟩) 1 1)).heap.size := by have := hm.size; omega
    clear hm hlit hHB hb hal2 p0 p1 p2 pf1 hs4
    generalize hY : (v4.alloc (.cells #[.int .i64 ch] 3)).setCell ⟨v1.heap.size, 1, none⟩ (.slice (some ⟨v4.heap.size, 0, none⟩) 1 1) = Y at *
    clear hY
    go_loopw [13, 14, 36] (fun _ _ K wr => ∃ (k : Nat) (va : Option Addr) (vc : Nat), k ≤ xs.length ∧ K = .int .i64 k ∧ B3 wr v1.heap.size (.slice caa ic.length cac) (.slice (some ⟨v4.heap.size, 0, none⟩) 1 1) (.slice va k vc) ∧ OwI Y.heap.size wr.heap.size wr (.slice va k vc) (sxpy Q (cs.take k) ch (xs.take k)) ∧ Mid v1.heap.size (v1.heap.size + 1) Y wr) (fun _ _ K _ => xs.length - (intOf K).toNat)
    case atStart => exact ⟨0, none, 0, Nat.zero_le _, rfl, V_5.out, by simpa [sxpy] using owI_nil Y.heap.size Y (Nat.le_refl _), Mid.refl _ _ _⟩
    case round =>
      obtain ⟨k, va, vc, hk, rfl, hv, hrow, hmid⟩ := hrel
      have hys := hmid.size
      by_cases hkn : k < xs.length
      · have hX := X_5.out.mid hmid (by omega)
        have hC := C_5.out.mid hmid (by omega)
        have hkc : k < cs.length := by have := HCL.out; omega
        obtain ⟨bx, ox, x, rfl, hbx, hcx, hdx⟩ := ((hX.ints).1).at (k := k) hkn
        obtain ⟨bc, oc, c, rfl, ⟨hbc, hbD⟩, hcc, hdc⟩ := hC.cell (k := k) hkc
        have hxr := HXR.out x (mem_drop hdx)
        have hcr2 := HCR.out c (mem_drop hdc)
        have hst : sxpy Q (cs.take (k + 1)) ch (xs.take (k + 1)) = sxpy Q (cs.take k) ch (xs.take k) ++ [(c + ch * x) % Q] := by rw [take_snoc hdx hkn, take_snoc hdc hkc, sxpy_snoc _ _ (by simp; omega)]
        have HST := Lib.hid hst
        have HLK := Lib.hid (show (sxpy Q (cs.take k) ch (xs.take k)).length = k by rw [sxpy_length]; simp; omega)
        obtain ⟨m0, m1⟩ := prod_bd (a := ch) (z := x) hcr.1 (by omega) hxr.1 (by omega)
        have hw1 : IntKind.i64.wrap (ch * x) = ch * x := by rw [IntKind.wrap_i64]; omega
        have hw2 : IntKind.i64.wrap (c + ch * x) = c + ch * x := by rw [IntKind.wrap_i64]; omega
        have htm : (c + ch * x).tmod Q = (c + ch * x) % Q := Int.tmod_eq_emod_of_nonneg (by omega)
        have hq0 : Q ≠ 0 := by omega
        have hki : (k : Int) < (cs.length : Int) := by omega
        generalize hval : (c + ch * x) % Q = val at htm HST
        have V_6 := Lib.hid hv
        have R_6 := Lib.hid hrow
        have MM := Lib.hid hmid
        have hG := G_5.out.mid hmid (.inl (by omega))
        have G_6 := Lib.hid hG
        have CC := Lib.hid hcc
        have hv1y : v1.heap.size + 1 ≤ Y.heap.size := by omega
        obtain ⟨g0, g1, g2⟩ := hG
        obtain ⟨p0, p1, p2, pf⟩ := hv
        clear hst hdx hdc hval hX hC hrow hmid pf
        go_wp2_with fail
        refine wpK_begin (n := 16) (S := (fun w' => w'.cell? ⟨w.heap.size, 1, none⟩ = some (.int .i64 Q) ∧ w'.cell? ⟨v1.heap.size, 2, none⟩ = some (.slice va k vc) ∧ w'.cell? ⟨bc, oc + k, none⟩ = some (.int .i64 c))) (by kernel_rfl) ?_
        refine wpK_take (i := 0) (v := ?_) rfl (by kernel_rfl) (by kernel_rfl) (by kernel_rfl) (by kernel_rfl) (fun _ _ _ h => h) (Or.inl ⟨by kernel_rfl, ?_⟩) ⟨G_6.out.2.1, V_6.out.2.2.1, CC.out⟩ ?_
        rotate_left 1
        · intro w9 hSw
          (try dsimp only at hSw)
          go_simp
          (try with_reducible rfl)
        (try simp only [Act.put, List.getElem_toArray, List.getElem_cons_succ, List.getElem_cons_zero, List.setIfInBounds_toArray, List.set_cons_zero, List.set_cons_succ])
        refine wpK_take (i := 1) (v := ?_) rfl (by kernel_rfl) (by kernel_rfl) (by kernel_rfl) (by kernel_rfl) (fun _ _ _ h => h) (Or.inl ⟨by kernel_rfl, ?_⟩) ⟨G_6.out.2.1, V_6.out.2.2.1, CC.out⟩ ?_
        rotate_left 1
        · intro w9 hSw
          (try dsimp only at hSw)
          go_simp
          (try with_reducible rfl)
        (try simp only [Act.put, List.getElem_toArray, List.getElem_cons_succ, List.getElem_cons_zero, List.setIfInBounds_toArray, List.set_cons_zero, List.set_cons_succ])
        refine wpK_take (i := 2) (v := ?_) rfl (by kernel_rfl) (by kernel_rfl) (by kernel_rfl) (by kernel_rfl) (fun _ _ _ h => h) (Or.inl ⟨by kernel_rfl, ?_⟩) ⟨G_6.out.2.1, V_6.out.2.2.1, CC.out⟩ ?_
        rotate_left 1
        · intro w9 hSw
          (try dsimp only at hSw)
          go_simp
          (try with_reducible rfl)
        (try simp only [Act.put, List.getElem_toArray, List.getElem_cons_succ, List.getElem_cons_zero, List.setIfInBounds_toArray, List.set_cons_zero, List.set_cons_succ])
        refine wpK_take (i := 3) (v := ?_) rfl (by kernel_rfl) (by kernel_rfl) (by kernel_rfl) (by kernel_rfl) (fun _ _ _ h => h) (Or.inl ⟨by kernel_rfl, ?_⟩) ⟨G_6.out.2.1, V_6.out.2.2.1, CC.out⟩ ?_
        rotate_left 1
        · intro w9 hSw
          (try dsimp only at hSw)
          go_simp
          (try with_reducible rfl)
        (try simp only [Act.put, List.getElem_toArray, List.getElem_cons_succ, List.getElem_cons_zero, List.setIfInBounds_toArray, List.set_cons_zero, List.set_cons_succ])
        refine wpK_take (i := 4) (v := ?_) rfl (by kernel_rfl) (by kernel_rfl) (by kernel_rfl) (by kernel_rfl) (fun _ _ _ h => h) (Or.inl ⟨by kernel_rfl, ?_⟩) ⟨G_6.out.2.1, V_6.out.2.2.1, CC.out⟩ ?_
        rotate_left 1
        · intro w9 hSw
          (try dsimp only at hSw)
          go_simp
          (try with_reducible rfl)
        (try simp only [Act.put, List.getElem_toArray, List.getElem_cons_succ, List.getElem_cons_zero, List.setIfInBounds_toArray, List.set_cons_zero, List.set_cons_succ])
        refine wpK_take (i := 5) (v := ?_) rfl (by kernel_rfl) (by kernel_rfl) (by kernel_rfl) (by kernel_rfl) (fun _ _ _ h => h) (Or.inl ⟨by kernel_rfl, ?_⟩) ⟨G_6.out.2.1, V_6.out.2.2.1, CC.out⟩ ?_
        rotate_left 1
        · intro w9 hSw
          (try dsimp only at hSw)
          go_simp
          (try with_reducible rfl)
        (try simp only [Act.put, List.getElem_toArray, List.getElem_cons_succ, List.getElem_cons_zero, List.setIfInBounds_toArray, List.set_cons_zero, List.set_cons_succ])
        refine wpK_take (i := 6) (v := ?_) rfl (by kernel_rfl) (by kernel_rfl) (by kernel_rfl) (by kernel_rfl) (fun _ _ _ h => h) (Or.inl ⟨by kernel_rfl, ?_⟩) ⟨G_6.out.2.1, V_6.out.2.2.1, CC.out⟩ ?_
        rotate_left 1
        · intro w9 hSw
          (try dsimp only at hSw)
          go_simp
          (try with_reducible rfl)
        (try simp only [Act.put, List.getElem_toArray, List.getElem_cons_succ, List.getElem_cons_zero, List.setIfInBounds_toArray, List.set_cons_zero, List.set_cons_succ])
        refine wpK_take (i := 7) (v := ?_) rfl (by kernel_rfl) (by kernel_rfl) (by kernel_rfl) (by kernel_rfl) (fun _ _ _ h => h) (Or.inl ⟨by kernel_rfl, ?_⟩) ⟨G_6.out.2.1, V_6.out.2.2.1, CC.out⟩ ?_
        rotate_left 1
        · intro w9 hSw
          (try dsimp only at hSw)
          go_simp
          (try with_reducible rfl)
        (try simp only [Act.put, List.getElem_toArray, List.getElem_cons_succ, List.getElem_cons_zero, List.setIfInBounds_toArray, List.set_cons_zero, List.set_cons_succ])
        refine wpK_take (i := 8) (v := ?_) rfl (by kernel_rfl) (by kernel_rfl) (by kernel_rfl) (by kernel_rfl) (fun _ _ _ h => h) (Or.inl ⟨by kernel_rfl, ?_⟩) ⟨G_6.out.2.1, V_6.out.2.2.1, CC.out⟩ ?_
        rotate_left 1
        · intro w9 hSw
          (try dsimp only at hSw)
          go_simp
          (try with_reducible rfl)
        (try simp only [Act.put, List.getElem_toArray, List.getElem_cons_succ, List.getElem_cons_zero, List.setIfInBounds_toArray, List.set_cons_zero, List.set_cons_succ])
        refine wpK_take (i := 9) (v := ?_) rfl (by kernel_rfl) (by kernel_rfl) (by kernel_rfl) (by kernel_rfl) (fun _ _ _ h => h) (Or.inl ⟨by kernel_rfl, ?_⟩) ⟨G_6.out.2.1, V_6.out.2.2.1, CC.out⟩ ?_
        rotate_left 1
        · intro w9 hSw
          (try dsimp only at hSw)
          go_simp
          (try with_reducible rfl)
        (try simp only [Act.put, List.getElem_toArray, List.getElem_cons_succ, List.getElem_cons_zero, List.setIfInBounds_toArray, List.set_cons_zero, List.set_cons_succ])
        refine wpK_take (i := 10) (v := ?_) rfl (by kernel_rfl) (by kernel_rfl) (by kernel_rfl) (by kernel_rfl) (fun _ _ _ h => h) (Or.inl ⟨by kernel_rfl, ?_⟩) ⟨G_6.out.2.1, V_6.out.2.2.1, CC.out⟩ ?_
        rotate_left 1
        · intro w9 hSw
          (try dsimp only at hSw)
          go_simp
          (try with_reducible rfl)
        (try simp only [Act.put, List.getElem_toArray, List.getElem_cons_succ, List.getElem_cons_zero, List.setIfInBounds_toArray, List.set_cons_zero, List.set_cons_succ])
        refine wpK_take (i := 11) (v := ?_) rfl (by kernel_rfl) (by kernel_rfl) (by kernel_rfl) (by kernel_rfl) (fun _ _ _ h => h) (Or.inl ⟨by kernel_rfl, ?_⟩) ⟨G_6.out.2.1, V_6.out.2.2.1, CC.out⟩ ?_
        rotate_left 1
        · intro w9 hSw
          (try dsimp only at hSw)
          go_simp
          (try with_reducible rfl)
        (try simp only [Act.put, List.getElem_toArray, List.getElem_cons_succ, List.getElem_cons_zero, List.setIfInBounds_toArray, List.set_cons_zero, List.set_cons_succ])
        refine wpK_take (i := 12) (v := ?_) rfl (by kernel_rfl) (by kernel_rfl) (by kernel_rfl) (by kernel_rfl) (fun _ _ _ h => h) (Or.inl ⟨by kernel_rfl, ?_⟩) ⟨G_6.out.2.1, V_6.out.2.2.1, CC.out⟩ ?_
        rotate_left 1
        · intro w9 hSw
          (try dsimp only at hSw)
          go_simp
          (try with_reducible rfl)
        (try simp only [Act.put, List.getElem_toArray, List.getElem_cons_succ, List.getElem_cons_zero, List.setIfInBounds_toArray, List.set_cons_zero, List.set_cons_succ])
        refine wpK_one (i := 13) (by kernel_rfl) rfl ?_
        intro K' hK
        go_simp
        have hal := ba wr.drew (.cells #[.int .i64 val] 3)
        have hb : Below wr.heap.size wr (wr.drew.alloc (.cells #[.int .i64 val] 3)) := bt ((Below.refl _ wr).drew) hal
        have G_7 := Lib.hid (G_6.out.below hb)
        have V_7 := Lib.hid (V_6.out.below hb)
        have R_7 := Lib.hid (R_6.out.below hb)
        have CC7 := Lib.hid (show (wr.drew.alloc (.cells #[.int .i64 val] 3)).cell? ⟨bc, oc + k, none⟩ = some (.int .i64 c) from by rw [hb.cell (p := ⟨bc, oc + k, none⟩) hbc]; exact CC.out)
        have LI := Lib.hid (ints_spot wr.drew wr.heap.size rfl [val] 3)
        have hsz7 := hb.size
        have HW7 := Lib.hid hb
        clear hal hb
        refine hK.out _ _ (fun _ => ⟨G_7.out.2.1, V_7.out.2.2.1, CC7.out⟩) ?_
        clear hK K'
        (try simp only [Act.put, List.getElem_toArray, List.getElem_cons_succ, List.getElem_cons_zero, List.setIfInBounds_toArray, List.set_cons_zero, List.set_cons_succ])
        refine wpK_one (i := 14) (by kernel_rfl) rfl ?_
        intro K' hK
        refine step_append_ints (by rfl) (.tmp 42) (.tmp 54) 25 (by rfl) Y.heap.size 3 i0 Try.underlying25 hi hz0 hz1 hz2 _ k (sxpy Q (cs.take k) ch (xs.take k)) (by rfl) (by have h := R_7.out.1; rwa [HLK.out] at h) (some ⟨wr.heap.size, 0, none⟩) 1 1 [val] (by rfl) rfl LI.out (fun h => by cases h) (by omega) (Nat.le_trans hys hsz7) ?_
        intro v' wb howb hgrb
        obtain ⟨va', vc', rfl⟩ := own_shape howb
        have hmg : Mid Y.heap.size wr.heap.size (wr.drew.alloc (.cells #[.int .i64 val] 3)) wb := Mid.grown hgrb (fun q hq => by have h1 := R_7.out.1.lt q hq; have h2 := R_6.out.2.1 q hq; exact ⟨h1.1, h2⟩)
        have G_8 := Lib.hid (G_7.out.mid hmg (.inl (by omega)))
        have V_8 := Lib.hid (V_7.out.mid hmg (.inl (by omega)))
        have OW8 := Lib.hid howb
        have MG := Lib.hid hmg
        have CC8 := Lib.hid (show wb.cell? ⟨bc, oc + k, none⟩ = some (.int .i64 c) from by rw [World.cell?_of_block (a := ⟨bc, oc + k, none⟩) (hmg.block bc (by omega) (.inl (by omega)))]; exact CC7.out)
        clear howb hgrb hmg
        refine hK.out _ _ (fun _ => ⟨G_8.out.2.1, V_8.out.2.2.1, CC8.out⟩) ?_
        clear hK K'
        (try simp only [Act.put, List.getElem_toArray, List.getElem_cons_succ, List.getElem_cons_zero, List.setIfInBounds_toArray, List.set_cons_zero, List.set_cons_succ])
        refine wpK_take (i := 15) (v := ?_) rfl (by kernel_rfl) (by kernel_rfl) (by kernel_rfl) (by kernel_rfl) (fun _ _ _ h => h) (Or.inl ⟨by kernel_rfl, ?_⟩) ⟨G_8.out.2.1, V_8.out.2.2.1, CC8.out⟩ ?_
        rotate_left 1
        · intro w9 hSw
          (try dsimp only at hSw)
          go_simp
          (try with_reducible rfl)
        (try simp only [Act.put, List.getElem_toArray, List.getElem_cons_succ, List.getElem_cons_zero, List.setIfInBounds_toArray, List.set_cons_zero, List.set_cons_succ])
        refine wpK_one (i := 16) (by kernel_rfl) rfl ?_
        intro K' hK
        obtain ⟨u0, u1, u2, uf⟩ := V_8.out
        have uf2 := uf 2
        clear uf
        go_simp
        refine hK.out _ _ (fun h => absurd rfl h) ?_
        clear hK K'
        (try simp only [Act.put, List.getElem_toArray, List.getElem_cons_succ, List.getElem_cons_zero, List.setIfInBounds_toArray, List.set_cons_zero, List.set_cons_succ])
        refine wpK_done (by kernel_rfl) ?_ _
        go_wp2_with fail
        go_roundw
        case rel =>
          have hmS : Mid v1.heap.size (v1.heap.size + 1) wb (wb.setCell ⟨v1.heap.size, 2, none⟩ (.slice va' (k + 1) vc')) := mid_cell _ _ _ _
          have hwb := MG.out.size
          have hrow : OwI Y.heap.size wb.heap.size wb (.slice va' (k + 1) vc') (sxpy Q (cs.take (k + 1)) ch (xs.take (k + 1))) := by
            have h := OwR.mk OW8.out (show Y.heap.size ≤ wb.heap.size by omega)
            rw [← HST.out] at h
            have hl : (sxpy Q (cs.take (k + 1)) ch (xs.take (k + 1))).length = k + 1 := by rw [HST.out, List.length_append, HLK.out]; rfl
            unfold OwI; rw [hl]; exact h
          exact ⟨k + 1, va', vc', by omega, by go_num, V_8.out.set2 _, (hrow.mid hmS (.inr (by omega))).wide (Nat.le_refl _) hmS.size (Nat.le_refl _), ((MM.out.trans (Mid.ofBelow HW7.out)).over MG.out).trans hmS⟩
        case measure => simp only [intOf]; omega
      · obtain rfl : k = xs.length := by omega
        rw [List.take_of_length_le (by have := HCL.out; omega), List.take_of_length_le (Nat.le_refl _)] at hrow
        have R_6 := Lib.hid hrow
        have MM := Lib.hid hmid
        have hO := O_5.out.mid hmid (.inl (Nat.le_refl _))
        have hH := H_5.out.mid hmid (.inr (by omega))
        have hZ := Z_5.out.mid hmid (.inl (by omega))
        have hHB := HB_5.out.trans (hmid.toBelow (by omega) (by omega))
        have O_6 := Lib.hid hO
        have H_6 := Lib.hid hH
        have Z_6 := Lib.hid hZ
        have HB_6 := Lib.hid hHB
        have hlz := hZ.lt
        obtain ⟨p0, p1, p2, _⟩ := hv
        obtain ⟨y0, y1, y2, yf⟩ := hZ
        have yf0 := yf 0
        have yf1 := yf 1
        have yf2 := yf 2
        clear hrow hmid hO hH hHB yf
        go_wp2
        (try simp only [Exit.inBlock, Exit.then])
        refine bodyPost_ret (v := .agg #[.slice caa ic.length cac, .slice (some ⟨v4.heap.size, 0, none⟩) 1 1, .slice va xs.length vc]) ?_ rfl ?_
        · rw [results_cell_one rfl]; go_simp
        · have hm5 := mid3 wr (w.heap.size + 1) (.slice caa ic.length cac) (.slice (some ⟨v4.heap.size, 0, none⟩) 1 1) (.slice va xs.length vc)
          have h1 := O_6.out.mid hm5 (.inr (by omega))
          have h2 := H_6.out.mid hm5 (.inr (by omega))
          have h3 := R_6.out.mid hm5 (.inr (by omega))
          exact ⟨_, rfl, ⟨_, _, _, v1.heap.size, v4.heap.size + 1, rfl, h1.wide (by omega) (Nat.le_refl _) h1.2.2.1, h2.wide (by omega) (Nat.le_refl _) h2.2.2.1, h3.wide (by omega) hm5.size (Nat.le_refl _)⟩, HB_6.out.trans (hm5.toBelow (by omega) (by have := HB_6.out.size; omega))⟩)

theorem pl_n (P Q G : Int) (s : ByteArray) (rows : List (List Int)) (xs cs : List Int) : (plV P Q G s rows xs cs).n ≤ 24 := by
  cases h : plB P Q G s rows xs cs
  · rw [pl_off h]; simp [nilP, PrD.n]
  · obtain ⟨h1, h2, _, _⟩ := plB_true.1 h
    obtain ⟨_, hr, hl, _⟩ := imB_true.1 h1
    obtain ⟨h3, h4, _⟩ := rowsB_true.1 hr
    have e : plV P Q G s rows xs cs = spP P Q G s rows xs cs := by simp [plV, h]
    rw [e]
    simp only [spP, PrD.n, imgs_length, sxpy_length, List.length_cons, List.length_nil]
    omega
/-- An answer that is read. -/
def AnsN (w : World) (p : PrD) (ok : Bool) (e : Ending) (w' : World) : Prop := ∃ a b c, e = .returned (.tuple #[.agg #[a, b, c], .bool ok]) ∧ OwP w.heap.size w'.heap.size w' (.agg #[a, b, c]) p ∧ Below w.heap.size w w'
theorem owP_nilP (Q : Nat) (w : World) (hQ : Q ≤ w.heap.size) : OwP Q w.heap.size w (.agg #[.slice none 0 0, .slice none 0 0, .slice none 0 0]) nilP := ⟨_, _, _, _, _, rfl, owI_nil Q w hQ, owI_nil _ w (Nat.le_refl _), owI_nil _ w (Nat.le_refl _)⟩
theorem pl_sp {P Q G : Int} {s : ByteArray} {rows : List (List Int)} {xs cs : List Int} (h : plB P Q G s rows xs cs = true) : plV P Q G s rows xs cs = spP P Q G s rows xs cs := by simp [plV, h]

set_option maxRecDepth 100000 in
set_option maxHeartbeats 3200000 in
theorem sProvL_any (P Q G : Int) (s : ByteArray) (hs : s.size ≤ 1048576) {B C D : Nat} {v u x : Value} {rows : List (List Int)} {xs cs : List Int} (hl : rows.length ≤ 1048576) (hr : ∀ z ∈ rows, z.length ≤ 17592186044416) (hxl : xs.length ≤ 1048576) (hcl : cs.length ≤ 1048576) {w : World} (hz : InS B w v rows) (hx : InI C w u xs) (hc : InI D w x cs) :
    Calls Try.prog 36 #[gv P Q G, .string s, v, u, x] w (AnsN w (plV P Q G s rows xs cs) (plB P Q G s rows xs cs)) := by
  obtain ⟨ad, cap, rfl⟩ := hz.shape
  obtain ⟨ad2, cap2, rfl⟩ := hx.shape
  obtain ⟨ad3, cap3, rfl⟩ := hc.shape
  have HRL := Lib.hid hr
  have G_0 := Lib.hid ((gr_new w P Q G 32).below (ba _ (.cells #[.slice none 0 0, .slice none 0 0, .slice none 0 0] 36)))
  have hb3 := b3_new (w.alloc (.cells #[.int .i64 P, .int .i64 Q, .int .i64 G] 32)) (.slice none 0 0) (.slice none 0 0) (.slice none 0 0) 36
  rw [show (w.alloc (.cells #[.int .i64 P, .int .i64 Q, .int .i64 G] 32)).heap.size = w.heap.size + 1 by simp] at hb3
  have Z_0 := Lib.hid hb3
  have HB_0 := Lib.hid (bt (ba w (.cells #[.int .i64 P, .int .i64 Q, .int .i64 G] 32)) (ba _ (.cells #[.slice none 0 0, .slice none 0 0, .slice none 0 0] 36)))
  have M_0 := Lib.hid (hz.below HB_0.out)
  have X_0 := Lib.hid (hx.below HB_0.out)
  have C_0 := Lib.hid (hc.below HB_0.out)
  clear hr hb3 hz hx hc
  rcases rows with _ | ⟨z0, rest⟩
  · cases h0 : (goodB P Q G && decide (s.size ≤ 40))
    · have K0 := Lib.hid (show (goodB P Q G && decide (s.size ≤ 40)) = false from h0)
      have E1 := Lib.hid (show plB P Q G s [] xs cs = false from by rw [← Bool.not_eq_true]; intro h; obtain ⟨h1', h2', h3', h4'⟩ := plB_true.1 h; obtain ⟨i1, i2, i3, i4⟩ := imB_true.1 h1'; simp [i1, h4'] at h0)
      rw [E1.out, pl_off E1.out]
      clear h0
      obtain ⟨gG0, gG1, gG2⟩ := G_0.out
      obtain ⟨rZ0, rZ1, rZ2, rfZ⟩ := Z_0.out
      have rfZ0 := rfZ 0
      have rfZ1 := rfZ 1
      have rfZ2 := rfZ 2
      go_enter Try.func36, Try.ntmps36
      go_wp2_with fail
      refine (sLabel_any P Q G s hs _).mono ?_
      rw [K0.out]
      rintro e v1 ⟨rfl, hb⟩
      have HB_1 := Lib.hid (bt HB_0.out hb)
      have G_1 := Lib.hid (G_0.out.below hb)
      have Z_1 := Lib.hid (Z_0.out.below hb)
      have M_1 := Lib.hid (M_0.out.below hb)
      have X_1 := Lib.hid (X_0.out.below hb)
      have C_1 := Lib.hid (C_0.out.below hb)
      clear hb gG0 gG1 gG2 rZ0 rZ1 rZ2 rfZ rfZ0 rfZ1 rfZ2
      obtain ⟨gG0, gG1, gG2⟩ := G_1.out
      obtain ⟨rZ0, rZ1, rZ2, rfZ⟩ := Z_1.out
      have rfZ0 := rfZ 0
      have rfZ1 := rfZ 1
      have rfZ2 := rfZ 2
      go_wp2
      (try simp only [Exit.inBlock, Exit.then])
      refine bodyPost_ret (v := .tuple #[.agg #[.slice none 0 0, .slice none 0 0, .slice none 0 0], .bool false]) ?_ rfl ?_
      · rw [results_cell_tmp rfl]; go_simp
      · have hm5 := mid3 v1 (w.heap.size + 1) (.slice none 0 0) (.slice none 0 0) (.slice none 0 0)
        exact ⟨_, _, _, rfl, owP_nilP _ _ (Nat.le_trans HB_1.out.size hm5.size), HB_1.out.trans (hm5.toBelow (by omega) HB_1.out.size)⟩
    have K0 := Lib.hid (show (goodB P Q G && decide (s.size ≤ 40)) = true from h0)
    have HGd := Lib.hid (show goodB P Q G = true from ((Bool.and_eq_true _ _).mp h0).1)
    have hs40 : s.size ≤ 40 := of_decide_eq_true ((Bool.and_eq_true _ _).mp h0).2
    have E1 := Lib.hid (show plB P Q G s [] xs cs = false from by rw [← Bool.not_eq_true]; intro h; have h1 := (imB_true.1 (plB_true.1 h).1).2.1; simp [rowsB] at h1)
    rw [E1.out, pl_off E1.out]
    have K9 := Lib.hid (show rowsB P Q [] = false by simp [rowsB])
    clear h0
    obtain ⟨gG0, gG1, gG2⟩ := G_0.out
    obtain ⟨rZ0, rZ1, rZ2, rfZ⟩ := Z_0.out
    have rfZ0 := rfZ 0
    have rfZ1 := rfZ 1
    have rfZ2 := rfZ 2
    go_enter Try.func36, Try.ntmps36
    go_wp2_with fail
    refine (sLabel_any P Q G s hs _).mono ?_
    rw [K0.out]
    rintro e v1 ⟨rfl, hb⟩
    have HB_1 := Lib.hid (bt HB_0.out hb)
    have G_1 := Lib.hid (G_0.out.below hb)
    have Z_1 := Lib.hid (Z_0.out.below hb)
    have M_1 := Lib.hid (M_0.out.below hb)
    have X_1 := Lib.hid (X_0.out.below hb)
    have C_1 := Lib.hid (C_0.out.below hb)
    clear hb gG0 gG1 gG2 rZ0 rZ1 rZ2 rfZ rfZ0 rfZ1 rfZ2
    obtain ⟨gG0, gG1, gG2⟩ := G_1.out
    obtain ⟨rZ0, rZ1, rZ2, rfZ⟩ := Z_1.out
    have rfZ0 := rfZ 0
    have rfZ1 := rfZ 1
    have rfZ2 := rfZ 2
    go_wp2_with fail
    refine (sBases_any P Q G (good_mo (HGd.out)) hl HRL.out M_1.out).mono ?_
    rw [K9.out]
    rintro e v2 ⟨rfl, hb⟩
    have HB_2 := Lib.hid (bt HB_1.out hb)
    have G_2 := Lib.hid (G_1.out.below hb)
    have Z_2 := Lib.hid (Z_1.out.below hb)
    have M_2 := Lib.hid (M_1.out.below hb)
    have X_2 := Lib.hid (X_1.out.below hb)
    have C_2 := Lib.hid (C_1.out.below hb)
    clear hb gG0 gG1 gG2 rZ0 rZ1 rZ2 rfZ rfZ0 rfZ1 rfZ2
    obtain ⟨gG0, gG1, gG2⟩ := G_2.out
    obtain ⟨rZ0, rZ1, rZ2, rfZ⟩ := Z_2.out
    have rfZ0 := rfZ 0
    have rfZ1 := rfZ 1
    have rfZ2 := rfZ 2
    go_wp2
    (try simp only [Exit.inBlock, Exit.then])
    refine bodyPost_ret (v := .tuple #[.agg #[.slice none 0 0, .slice none 0 0, .slice none 0 0], .bool false]) ?_ rfl ?_
    · rw [results_cell_tmp rfl]; go_simp
    · have hm5 := mid3 v2 (w.heap.size + 1) (.slice none 0 0) (.slice none 0 0) (.slice none 0 0)
      exact ⟨_, _, _, rfl, owP_nilP _ _ (Nat.le_trans HB_2.out.size hm5.size), HB_2.out.trans (hm5.toBelow (by omega) HB_2.out.size)⟩
  · obtain ⟨zb, zo, za, zc, rfl, hc1⟩ := row_zero M_0.out
    have E_0 := Lib.hid hc1
    clear hc1
    cases h0 : (goodB P Q G && decide (s.size ≤ 40))
    · have K0 := Lib.hid (show (goodB P Q G && decide (s.size ≤ 40)) = false from h0)
      have E1 := Lib.hid (show plB P Q G s (z0 :: rest) xs cs = false from by rw [← Bool.not_eq_true]; intro h; obtain ⟨h1', h2', h3', h4'⟩ := plB_true.1 h; obtain ⟨i1, i2, i3, i4⟩ := imB_true.1 h1'; simp [i1, h4'] at h0)
      rw [E1.out, pl_off E1.out]
      clear h0
      obtain ⟨gG0, gG1, gG2⟩ := G_0.out
      obtain ⟨rZ0, rZ1, rZ2, rfZ⟩ := Z_0.out
      have rfZ0 := rfZ 0
      have rfZ1 := rfZ 1
      have rfZ2 := rfZ 2
      have cE := E_0.out
      unfold C1 at cE
      go_enter Try.func36, Try.ntmps36
      go_wp2_with fail
      refine (sLabel_any P Q G s hs _).mono ?_
      rw [K0.out]
      rintro e v1 ⟨rfl, hb⟩
      have HB_1 := Lib.hid (bt HB_0.out hb)
      have G_1 := Lib.hid (G_0.out.below hb)
      have Z_1 := Lib.hid (Z_0.out.below hb)
      have M_1 := Lib.hid (M_0.out.below hb)
      have X_1 := Lib.hid (X_0.out.below hb)
      have C_1 := Lib.hid (C_0.out.below hb)
      have E_1 := Lib.hid (E_0.out.below hb)
      clear hb gG0 gG1 gG2 rZ0 rZ1 rZ2 rfZ rfZ0 rfZ1 rfZ2 cE
      obtain ⟨gG0, gG1, gG2⟩ := G_1.out
      obtain ⟨rZ0, rZ1, rZ2, rfZ⟩ := Z_1.out
      have rfZ0 := rfZ 0
      have rfZ1 := rfZ 1
      have rfZ2 := rfZ 2
      have cE := E_1.out
      unfold C1 at cE
      go_wp2
      (try simp only [Exit.inBlock, Exit.then])
      refine bodyPost_ret (v := .tuple #[.agg #[.slice none 0 0, .slice none 0 0, .slice none 0 0], .bool false]) ?_ rfl ?_
      · rw [results_cell_tmp rfl]; go_simp
      · have hm5 := mid3 v1 (w.heap.size + 1) (.slice none 0 0) (.slice none 0 0) (.slice none 0 0)
        exact ⟨_, _, _, rfl, owP_nilP _ _ (Nat.le_trans HB_1.out.size hm5.size), HB_1.out.trans (hm5.toBelow (by omega) HB_1.out.size)⟩
    have K0 := Lib.hid (show (goodB P Q G && decide (s.size ≤ 40)) = true from h0)
    have HGd := Lib.hid (show goodB P Q G = true from ((Bool.and_eq_true _ _).mp h0).1)
    have hs40 : s.size ≤ 40 := of_decide_eq_true ((Bool.and_eq_true _ _).mp h0).2
    cases h1 : rowsB P Q (z0 :: rest)
    · have K1 := Lib.hid (show rowsB P Q (z0 :: rest) = false from h1)
      have E1 := Lib.hid (show plB P Q G s (z0 :: rest) xs cs = false from by rw [← Bool.not_eq_true]; intro h; obtain ⟨h1', h2', h3', h4'⟩ := plB_true.1 h; obtain ⟨i1, i2, i3, i4⟩ := imB_true.1 h1'; simp [i2] at h1)
      rw [E1.out, pl_off E1.out]
      clear h0 h1
      obtain ⟨gG0, gG1, gG2⟩ := G_0.out
      obtain ⟨rZ0, rZ1, rZ2, rfZ⟩ := Z_0.out
      have rfZ0 := rfZ 0
      have rfZ1 := rfZ 1
      have rfZ2 := rfZ 2
      have cE := E_0.out
      unfold C1 at cE
      go_enter Try.func36, Try.ntmps36
      go_wp2_with fail
      refine (sLabel_any P Q G s hs _).mono ?_
      rw [K0.out]
      rintro e v1 ⟨rfl, hb⟩
      have HB_1 := Lib.hid (bt HB_0.out hb)
      have G_1 := Lib.hid (G_0.out.below hb)
      have Z_1 := Lib.hid (Z_0.out.below hb)
      have M_1 := Lib.hid (M_0.out.below hb)
      have X_1 := Lib.hid (X_0.out.below hb)
      have C_1 := Lib.hid (C_0.out.below hb)
      have E_1 := Lib.hid (E_0.out.below hb)
      clear hb gG0 gG1 gG2 rZ0 rZ1 rZ2 rfZ rfZ0 rfZ1 rfZ2 cE
      obtain ⟨gG0, gG1, gG2⟩ := G_1.out
      obtain ⟨rZ0, rZ1, rZ2, rfZ⟩ := Z_1.out
      have rfZ0 := rfZ 0
      have rfZ1 := rfZ 1
      have rfZ2 := rfZ 2
      have cE := E_1.out
      unfold C1 at cE
      go_wp2_with fail
      refine (sBases_any P Q G (good_mo (HGd.out)) hl HRL.out M_1.out).mono ?_
      rw [K1.out]
      rintro e v2 ⟨rfl, hb⟩
      have HB_2 := Lib.hid (bt HB_1.out hb)
      have G_2 := Lib.hid (G_1.out.below hb)
      have Z_2 := Lib.hid (Z_1.out.below hb)
      have M_2 := Lib.hid (M_1.out.below hb)
      have X_2 := Lib.hid (X_1.out.below hb)
      have C_2 := Lib.hid (C_1.out.below hb)
      have E_2 := Lib.hid (E_1.out.below hb)
      clear hb gG0 gG1 gG2 rZ0 rZ1 rZ2 rfZ rfZ0 rfZ1 rfZ2 cE
      obtain ⟨gG0, gG1, gG2⟩ := G_2.out
      obtain ⟨rZ0, rZ1, rZ2, rfZ⟩ := Z_2.out
      have rfZ0 := rfZ 0
      have rfZ1 := rfZ 1
      have rfZ2 := rfZ 2
      have cE := E_2.out
      unfold C1 at cE
      go_wp2
      (try simp only [Exit.inBlock, Exit.then])
      refine bodyPost_ret (v := .tuple #[.agg #[.slice none 0 0, .slice none 0 0, .slice none 0 0], .bool false]) ?_ rfl ?_
      · rw [results_cell_tmp rfl]; go_simp
      · have hm5 := mid3 v2 (w.heap.size + 1) (.slice none 0 0) (.slice none 0 0) (.slice none 0 0)
        exact ⟨_, _, _, rfl, owP_nilP _ _ (Nat.le_trans HB_2.out.size hm5.size), HB_2.out.trans (hm5.toBelow (by omega) HB_2.out.size)⟩
    have K1 := Lib.hid (show rowsB P Q (z0 :: rest) = true from h1)
    obtain ⟨hr1, hr2, hr3⟩ := rowsB_true.1 h1
    rw [wid_cons] at hr2 hr3
    by_cases h2 : ¬ (xs.length = z0.length)
    · have B2 : ((xs.length : Int) != (z0.length : Int)) = true := by simp; omega
      have E1 := Lib.hid (show plB P Q G s (z0 :: rest) xs cs = false from by rw [← Bool.not_eq_true]; intro h; obtain ⟨h1', h2', h3', h4'⟩ := plB_true.1 h; obtain ⟨i1, i2, i3, i4⟩ := imB_true.1 h1'; exact h2 (by rw [i3]; rfl))
      rw [E1.out, pl_off E1.out]
      clear h0 h1 h2
      obtain ⟨gG0, gG1, gG2⟩ := G_0.out
      obtain ⟨rZ0, rZ1, rZ2, rfZ⟩ := Z_0.out
      have rfZ0 := rfZ 0
      have rfZ1 := rfZ 1
      have rfZ2 := rfZ 2
      have cE := E_0.out
      unfold C1 at cE
      go_enter Try.func36, Try.ntmps36
      go_wp2_with fail
      refine (sLabel_any P Q G s hs _).mono ?_
      rw [K0.out]
      rintro e v1 ⟨rfl, hb⟩
      have HB_1 := Lib.hid (bt HB_0.out hb)
      have G_1 := Lib.hid (G_0.out.below hb)
      have Z_1 := Lib.hid (Z_0.out.below hb)
      have M_1 := Lib.hid (M_0.out.below hb)
      have X_1 := Lib.hid (X_0.out.below hb)
      have C_1 := Lib.hid (C_0.out.below hb)
      have E_1 := Lib.hid (E_0.out.below hb)
      clear hb gG0 gG1 gG2 rZ0 rZ1 rZ2 rfZ rfZ0 rfZ1 rfZ2 cE
      obtain ⟨gG0, gG1, gG2⟩ := G_1.out
      obtain ⟨rZ0, rZ1, rZ2, rfZ⟩ := Z_1.out
      have rfZ0 := rfZ 0
      have rfZ1 := rfZ 1
      have rfZ2 := rfZ 2
      have cE := E_1.out
      unfold C1 at cE
      go_wp2_with fail
      refine (sBases_any P Q G (good_mo (HGd.out)) hl HRL.out M_1.out).mono ?_
      rw [K1.out]
      rintro e v2 ⟨rfl, hb⟩
      have HB_2 := Lib.hid (bt HB_1.out hb)
      have G_2 := Lib.hid (G_1.out.below hb)
      have Z_2 := Lib.hid (Z_1.out.below hb)
      have M_2 := Lib.hid (M_1.out.below hb)
      have X_2 := Lib.hid (X_1.out.below hb)
      have C_2 := Lib.hid (C_1.out.below hb)
      have E_2 := Lib.hid (E_1.out.below hb)
      clear hb gG0 gG1 gG2 rZ0 rZ1 rZ2 rfZ rfZ0 rfZ1 rfZ2 cE
      obtain ⟨gG0, gG1, gG2⟩ := G_2.out
      obtain ⟨rZ0, rZ1, rZ2, rfZ⟩ := Z_2.out
      have rfZ0 := rfZ 0
      have rfZ1 := rfZ 1
      have rfZ2 := rfZ 2
      have cE := E_2.out
      unfold C1 at cE
      go_wp2
      (try simp only [Exit.inBlock, Exit.then])
      refine bodyPost_ret (v := .tuple #[.agg #[.slice none 0 0, .slice none 0 0, .slice none 0 0], .bool false]) ?_ rfl ?_
      · rw [results_cell_tmp rfl]; go_simp
      · have hm5 := mid3 v2 (w.heap.size + 1) (.slice none 0 0) (.slice none 0 0) (.slice none 0 0)
        exact ⟨_, _, _, rfl, owP_nilP _ _ (Nat.le_trans HB_2.out.size hm5.size), HB_2.out.trans (hm5.toBelow (by omega) HB_2.out.size)⟩
    have h2 := Decidable.not_not.1 h2
    have B2 : ((xs.length : Int) != (z0.length : Int)) = false := by simp; omega
    by_cases h3 : ¬ (cs.length = xs.length)
    · have B3 : ((cs.length : Int) != (xs.length : Int)) = true := by simp; omega
      have E1 := Lib.hid (show plB P Q G s (z0 :: rest) xs cs = false from by rw [← Bool.not_eq_true]; intro h; obtain ⟨h1', h2', h3', h4'⟩ := plB_true.1 h; obtain ⟨i1, i2, i3, i4⟩ := imB_true.1 h1'; exact h3 h2')
      rw [E1.out, pl_off E1.out]
      clear h0 h1 h2 h3
      obtain ⟨gG0, gG1, gG2⟩ := G_0.out
      obtain ⟨rZ0, rZ1, rZ2, rfZ⟩ := Z_0.out
      have rfZ0 := rfZ 0
      have rfZ1 := rfZ 1
      have rfZ2 := rfZ 2
      have cE := E_0.out
      unfold C1 at cE
      go_enter Try.func36, Try.ntmps36
      go_wp2_with fail
      refine (sLabel_any P Q G s hs _).mono ?_
      rw [K0.out]
      rintro e v1 ⟨rfl, hb⟩
      have HB_1 := Lib.hid (bt HB_0.out hb)
      have G_1 := Lib.hid (G_0.out.below hb)
      have Z_1 := Lib.hid (Z_0.out.below hb)
      have M_1 := Lib.hid (M_0.out.below hb)
      have X_1 := Lib.hid (X_0.out.below hb)
      have C_1 := Lib.hid (C_0.out.below hb)
      have E_1 := Lib.hid (E_0.out.below hb)
      clear hb gG0 gG1 gG2 rZ0 rZ1 rZ2 rfZ rfZ0 rfZ1 rfZ2 cE
      obtain ⟨gG0, gG1, gG2⟩ := G_1.out
      obtain ⟨rZ0, rZ1, rZ2, rfZ⟩ := Z_1.out
      have rfZ0 := rfZ 0
      have rfZ1 := rfZ 1
      have rfZ2 := rfZ 2
      have cE := E_1.out
      unfold C1 at cE
      go_wp2_with fail
      refine (sBases_any P Q G (good_mo (HGd.out)) hl HRL.out M_1.out).mono ?_
      rw [K1.out]
      rintro e v2 ⟨rfl, hb⟩
      have HB_2 := Lib.hid (bt HB_1.out hb)
      have G_2 := Lib.hid (G_1.out.below hb)
      have Z_2 := Lib.hid (Z_1.out.below hb)
      have M_2 := Lib.hid (M_1.out.below hb)
      have X_2 := Lib.hid (X_1.out.below hb)
      have C_2 := Lib.hid (C_1.out.below hb)
      have E_2 := Lib.hid (E_1.out.below hb)
      clear hb gG0 gG1 gG2 rZ0 rZ1 rZ2 rfZ rfZ0 rfZ1 rfZ2 cE
      obtain ⟨gG0, gG1, gG2⟩ := G_2.out
      obtain ⟨rZ0, rZ1, rZ2, rfZ⟩ := Z_2.out
      have rfZ0 := rfZ 0
      have rfZ1 := rfZ 1
      have rfZ2 := rfZ 2
      have cE := E_2.out
      unfold C1 at cE
      go_wp2
      (try simp only [Exit.inBlock, Exit.then])
      refine bodyPost_ret (v := .tuple #[.agg #[.slice none 0 0, .slice none 0 0, .slice none 0 0], .bool false]) ?_ rfl ?_
      · rw [results_cell_tmp rfl]; go_simp
      · have hm5 := mid3 v2 (w.heap.size + 1) (.slice none 0 0) (.slice none 0 0) (.slice none 0 0)
        exact ⟨_, _, _, rfl, owP_nilP _ _ (Nat.le_trans HB_2.out.size hm5.size), HB_2.out.trans (hm5.toBelow (by omega) HB_2.out.size)⟩
    have h3 := Decidable.not_not.1 h3
    have B3 : ((cs.length : Int) != (xs.length : Int)) = false := by simp; omega
    cases h4 : allIn xs 0 (Q - 1)
    · have K4 := Lib.hid (show allIn xs 0 (Q - 1) = false from h4)
      have E1 := Lib.hid (show plB P Q G s (z0 :: rest) xs cs = false from by rw [← Bool.not_eq_true]; intro h; obtain ⟨h1', h2', h3', h4'⟩ := plB_true.1 h; obtain ⟨i1, i2, i3, i4⟩ := imB_true.1 h1'; simp [i4] at h4)
      rw [E1.out, pl_off E1.out]
      clear h0 h1 h2 h3 h4
      obtain ⟨gG0, gG1, gG2⟩ := G_0.out
      obtain ⟨rZ0, rZ1, rZ2, rfZ⟩ := Z_0.out
      have rfZ0 := rfZ 0
      have rfZ1 := rfZ 1
      have rfZ2 := rfZ 2
      have cE := E_0.out
      unfold C1 at cE
      go_enter Try.func36, Try.ntmps36
      go_wp2_with fail
      refine (sLabel_any P Q G s hs _).mono ?_
      rw [K0.out]
      rintro e v1 ⟨rfl, hb⟩
      have HB_1 := Lib.hid (bt HB_0.out hb)
      have G_1 := Lib.hid (G_0.out.below hb)
      have Z_1 := Lib.hid (Z_0.out.below hb)
      have M_1 := Lib.hid (M_0.out.below hb)
      have X_1 := Lib.hid (X_0.out.below hb)
      have C_1 := Lib.hid (C_0.out.below hb)
      have E_1 := Lib.hid (E_0.out.below hb)
      clear hb gG0 gG1 gG2 rZ0 rZ1 rZ2 rfZ rfZ0 rfZ1 rfZ2 cE
      obtain ⟨gG0, gG1, gG2⟩ := G_1.out
      obtain ⟨rZ0, rZ1, rZ2, rfZ⟩ := Z_1.out
      have rfZ0 := rfZ 0
      have rfZ1 := rfZ 1
      have rfZ2 := rfZ 2
      have cE := E_1.out
      unfold C1 at cE
      go_wp2_with fail
      refine (sBases_any P Q G (good_mo (HGd.out)) hl HRL.out M_1.out).mono ?_
      rw [K1.out]
      rintro e v2 ⟨rfl, hb⟩
      have HB_2 := Lib.hid (bt HB_1.out hb)
      have G_2 := Lib.hid (G_1.out.below hb)
      have Z_2 := Lib.hid (Z_1.out.below hb)
      have M_2 := Lib.hid (M_1.out.below hb)
      have X_2 := Lib.hid (X_1.out.below hb)
      have C_2 := Lib.hid (C_1.out.below hb)
      have E_2 := Lib.hid (E_1.out.below hb)
      clear hb gG0 gG1 gG2 rZ0 rZ1 rZ2 rfZ rfZ0 rfZ1 rfZ2 cE
      obtain ⟨gG0, gG1, gG2⟩ := G_2.out
      obtain ⟨rZ0, rZ1, rZ2, rfZ⟩ := Z_2.out
      have rfZ0 := rfZ 0
      have rfZ1 := rfZ 1
      have rfZ2 := rfZ 2
      have cE := E_2.out
      unfold C1 at cE
      go_wp2_with fail
      refine (gExps_any P Q G ⟨by have := (good_rng HGd.out).2.1; omega, (good_rng HGd.out).2.1.2⟩ _ _ _ xs rfl (by omega) _ (X_2.out.ints).1).mono ?_
      rw [K4.out]
      rintro e v3 ⟨rfl, hb⟩
      have HB_3 := Lib.hid (bt HB_2.out hb)
      have G_3 := Lib.hid (G_2.out.below hb)
      have Z_3 := Lib.hid (Z_2.out.below hb)
      have M_3 := Lib.hid (M_2.out.below hb)
      have X_3 := Lib.hid (X_2.out.below hb)
      have C_3 := Lib.hid (C_2.out.below hb)
      have E_3 := Lib.hid (E_2.out.below hb)
      clear hb gG0 gG1 gG2 rZ0 rZ1 rZ2 rfZ rfZ0 rfZ1 rfZ2 cE
      obtain ⟨gG0, gG1, gG2⟩ := G_3.out
      obtain ⟨rZ0, rZ1, rZ2, rfZ⟩ := Z_3.out
      have rfZ0 := rfZ 0
      have rfZ1 := rfZ 1
      have rfZ2 := rfZ 2
      have cE := E_3.out
      unfold C1 at cE
      go_wp2
      (try simp only [Exit.inBlock, Exit.then])
      refine bodyPost_ret (v := .tuple #[.agg #[.slice none 0 0, .slice none 0 0, .slice none 0 0], .bool false]) ?_ rfl ?_
      · rw [results_cell_tmp rfl]; go_simp
      · have hm5 := mid3 v3 (w.heap.size + 1) (.slice none 0 0) (.slice none 0 0) (.slice none 0 0)
        exact ⟨_, _, _, rfl, owP_nilP _ _ (Nat.le_trans HB_3.out.size hm5.size), HB_3.out.trans (hm5.toBelow (by omega) HB_3.out.size)⟩
    have K4 := Lib.hid (show allIn xs 0 (Q - 1) = true from h4)
    cases h5 : allIn cs 0 (Q - 1)
    · have K5 := Lib.hid (show allIn cs 0 (Q - 1) = false from h5)
      have E1 := Lib.hid (show plB P Q G s (z0 :: rest) xs cs = false from by rw [← Bool.not_eq_true]; intro h; obtain ⟨h1', h2', h3', h4'⟩ := plB_true.1 h; obtain ⟨i1, i2, i3, i4⟩ := imB_true.1 h1'; simp [h3'] at h5)
      rw [E1.out, pl_off E1.out]
      clear h0 h1 h2 h3 h4 h5
      obtain ⟨gG0, gG1, gG2⟩ := G_0.out
      obtain ⟨rZ0, rZ1, rZ2, rfZ⟩ := Z_0.out
      have rfZ0 := rfZ 0
      have rfZ1 := rfZ 1
      have rfZ2 := rfZ 2
      have cE := E_0.out
      unfold C1 at cE
      go_enter Try.func36, Try.ntmps36
      go_wp2_with fail
      refine (sLabel_any P Q G s hs _).mono ?_
      rw [K0.out]
      rintro e v1 ⟨rfl, hb⟩
      have HB_1 := Lib.hid (bt HB_0.out hb)
      have G_1 := Lib.hid (G_0.out.below hb)
      have Z_1 := Lib.hid (Z_0.out.below hb)
      have M_1 := Lib.hid (M_0.out.below hb)
      have X_1 := Lib.hid (X_0.out.below hb)
      have C_1 := Lib.hid (C_0.out.below hb)
      have E_1 := Lib.hid (E_0.out.below hb)
      clear hb gG0 gG1 gG2 rZ0 rZ1 rZ2 rfZ rfZ0 rfZ1 rfZ2 cE
      obtain ⟨gG0, gG1, gG2⟩ := G_1.out
      obtain ⟨rZ0, rZ1, rZ2, rfZ⟩ := Z_1.out
      have rfZ0 := rfZ 0
      have rfZ1 := rfZ 1
      have rfZ2 := rfZ 2
      have cE := E_1.out
      unfold C1 at cE
      go_wp2_with fail
      refine (sBases_any P Q G (good_mo (HGd.out)) hl HRL.out M_1.out).mono ?_
      rw [K1.out]
      rintro e v2 ⟨rfl, hb⟩
      have HB_2 := Lib.hid (bt HB_1.out hb)
      have G_2 := Lib.hid (G_1.out.below hb)
      have Z_2 := Lib.hid (Z_1.out.below hb)
      have M_2 := Lib.hid (M_1.out.below hb)
      have X_2 := Lib.hid (X_1.out.below hb)
      have C_2 := Lib.hid (C_1.out.below hb)
      have E_2 := Lib.hid (E_1.out.below hb)
      clear hb gG0 gG1 gG2 rZ0 rZ1 rZ2 rfZ rfZ0 rfZ1 rfZ2 cE
      obtain ⟨gG0, gG1, gG2⟩ := G_2.out
      obtain ⟨rZ0, rZ1, rZ2, rfZ⟩ := Z_2.out
      have rfZ0 := rfZ 0
      have rfZ1 := rfZ 1
      have rfZ2 := rfZ 2
      have cE := E_2.out
      unfold C1 at cE
      go_wp2_with fail
      refine (gExps_any P Q G ⟨by have := (good_rng HGd.out).2.1; omega, (good_rng HGd.out).2.1.2⟩ _ _ _ xs rfl (by omega) _ (X_2.out.ints).1).mono ?_
      rw [K4.out]
      rintro e v3 ⟨rfl, hb⟩
      have HB_3 := Lib.hid (bt HB_2.out hb)
      have G_3 := Lib.hid (G_2.out.below hb)
      have Z_3 := Lib.hid (Z_2.out.below hb)
      have M_3 := Lib.hid (M_2.out.below hb)
      have X_3 := Lib.hid (X_2.out.below hb)
      have C_3 := Lib.hid (C_2.out.below hb)
      have E_3 := Lib.hid (E_2.out.below hb)
      clear hb gG0 gG1 gG2 rZ0 rZ1 rZ2 rfZ rfZ0 rfZ1 rfZ2 cE
      obtain ⟨gG0, gG1, gG2⟩ := G_3.out
      obtain ⟨rZ0, rZ1, rZ2, rfZ⟩ := Z_3.out
      have rfZ0 := rfZ 0
      have rfZ1 := rfZ 1
      have rfZ2 := rfZ 2
      have cE := E_3.out
      unfold C1 at cE
      go_wp2_with fail
      refine (gExps_any P Q G ⟨by have := (good_rng HGd.out).2.1; omega, (good_rng HGd.out).2.1.2⟩ _ _ _ cs rfl (by omega) _ (C_3.out.ints).1).mono ?_
      rw [K5.out]
      rintro e v4 ⟨rfl, hb⟩
      have HB_4 := Lib.hid (bt HB_3.out hb)
      have G_4 := Lib.hid (G_3.out.below hb)
      have Z_4 := Lib.hid (Z_3.out.below hb)
      have M_4 := Lib.hid (M_3.out.below hb)
      have X_4 := Lib.hid (X_3.out.below hb)
      have C_4 := Lib.hid (C_3.out.below hb)
      have E_4 := Lib.hid (E_3.out.below hb)
      clear hb gG0 gG1 gG2 rZ0 rZ1 rZ2 rfZ rfZ0 rfZ1 rfZ2 cE
      obtain ⟨gG0, gG1, gG2⟩ := G_4.out
      obtain ⟨rZ0, rZ1, rZ2, rfZ⟩ := Z_4.out
      have rfZ0 := rfZ 0
      have rfZ1 := rfZ 1
      have rfZ2 := rfZ 2
      have cE := E_4.out
      unfold C1 at cE
      go_wp2
      (try simp only [Exit.inBlock, Exit.then])
      refine bodyPost_ret (v := .tuple #[.agg #[.slice none 0 0, .slice none 0 0, .slice none 0 0], .bool false]) ?_ rfl ?_
      · rw [results_cell_tmp rfl]; go_simp
      · have hm5 := mid3 v4 (w.heap.size + 1) (.slice none 0 0) (.slice none 0 0) (.slice none 0 0)
        exact ⟨_, _, _, rfl, owP_nilP _ _ (Nat.le_trans HB_4.out.size hm5.size), HB_4.out.trans (hm5.toBelow (by omega) HB_4.out.size)⟩
    have K5 := Lib.hid (show allIn cs 0 (Q - 1) = true from h5)
    have E1 := Lib.hid (plB_true.2 ⟨imB_true.2 ⟨HGd.out, h1, by rw [h2]; rfl, h4⟩, h3, h5, hs40⟩)
    rw [E1.out, pl_sp E1.out]
    have HX := Lib.hid (fun (W : World) (q1 : InS B W (.slice (some ⟨zb, zo, none⟩) (z0 :: rest).length cap) (z0 :: rest)) (q2 : InI C W (.slice ad2 xs.length cap2) xs) (q3 : InI D W (.slice ad3 cs.length cap3) cs) => sProve_any P Q G HGd.out s (by omega) hr1.2 (by omega) (fun r hr => ⟨by rw [(hr3 r hr).1, h2], (hr3 r hr).2⟩) h3 h4 h5 q1 q2 q3)
    obtain ⟨p, hp⟩ : ∃ p, spP P Q G s (z0 :: rest) xs cs = p := ⟨_, rfl⟩
    rw [hp] at HX ⊢
    clear hp h0 h1 h2 h3 h4 h5 hr3
    obtain ⟨gG0, gG1, gG2⟩ := G_0.out
    obtain ⟨rZ0, rZ1, rZ2, rfZ⟩ := Z_0.out
    have rfZ0 := rfZ 0
    have rfZ1 := rfZ 1
    have rfZ2 := rfZ 2
    have cE := E_0.out
    unfold C1 at cE
    go_enter Try.func36, Try.ntmps36
    go_wp2_with fail
    refine (sLabel_any P Q G s hs _).mono ?_
    rw [K0.out]
    rintro e v1 ⟨rfl, hb⟩
    have HB_1 := Lib.hid (bt HB_0.out hb)
    have G_1 := Lib.hid (G_0.out.below hb)
    have Z_1 := Lib.hid (Z_0.out.below hb)
    have M_1 := Lib.hid (M_0.out.below hb)
    have X_1 := Lib.hid (X_0.out.below hb)
    have C_1 := Lib.hid (C_0.out.below hb)
    have E_1 := Lib.hid (E_0.out.below hb)
    clear hb gG0 gG1 gG2 rZ0 rZ1 rZ2 rfZ rfZ0 rfZ1 rfZ2 cE
    obtain ⟨gG0, gG1, gG2⟩ := G_1.out
    obtain ⟨rZ0, rZ1, rZ2, rfZ⟩ := Z_1.out
    have rfZ0 := rfZ 0
    have rfZ1 := rfZ 1
    have rfZ2 := rfZ 2
    have cE := E_1.out
    unfold C1 at cE
    go_wp2_with fail
    refine (sBases_any P Q G (good_mo (HGd.out)) hl HRL.out M_1.out).mono ?_
    rw [K1.out]
    rintro e v2 ⟨rfl, hb⟩
    have HB_2 := Lib.hid (bt HB_1.out hb)
    have G_2 := Lib.hid (G_1.out.below hb)
    have Z_2 := Lib.hid (Z_1.out.below hb)
    have M_2 := Lib.hid (M_1.out.below hb)
    have X_2 := Lib.hid (X_1.out.below hb)
    have C_2 := Lib.hid (C_1.out.below hb)
    have E_2 := Lib.hid (E_1.out.below hb)
    clear hb gG0 gG1 gG2 rZ0 rZ1 rZ2 rfZ rfZ0 rfZ1 rfZ2 cE
    obtain ⟨gG0, gG1, gG2⟩ := G_2.out
    obtain ⟨rZ0, rZ1, rZ2, rfZ⟩ := Z_2.out
    have rfZ0 := rfZ 0
    have rfZ1 := rfZ 1
    have rfZ2 := rfZ 2
    have cE := E_2.out
    unfold C1 at cE
    go_wp2_with fail
    refine (gExps_any P Q G ⟨by have := (good_rng HGd.out).2.1; omega, (good_rng HGd.out).2.1.2⟩ _ _ _ xs rfl (by omega) _ (X_2.out.ints).1).mono ?_
    rw [K4.out]
    rintro e v3 ⟨rfl, hb⟩
    have HB_3 := Lib.hid (bt HB_2.out hb)
    have G_3 := Lib.hid (G_2.out.below hb)
    have Z_3 := Lib.hid (Z_2.out.below hb)
    have M_3 := Lib.hid (M_2.out.below hb)
    have X_3 := Lib.hid (X_2.out.below hb)
    have C_3 := Lib.hid (C_2.out.below hb)
    have E_3 := Lib.hid (E_2.out.below hb)
    clear hb gG0 gG1 gG2 rZ0 rZ1 rZ2 rfZ rfZ0 rfZ1 rfZ2 cE
    obtain ⟨gG0, gG1, gG2⟩ := G_3.out
    obtain ⟨rZ0, rZ1, rZ2, rfZ⟩ := Z_3.out
    have rfZ0 := rfZ 0
    have rfZ1 := rfZ 1
    have rfZ2 := rfZ 2
    have cE := E_3.out
    unfold C1 at cE
    go_wp2_with fail
    refine (gExps_any P Q G ⟨by have := (good_rng HGd.out).2.1; omega, (good_rng HGd.out).2.1.2⟩ _ _ _ cs rfl (by omega) _ (C_3.out.ints).1).mono ?_
    rw [K5.out]
    rintro e v4 ⟨rfl, hb⟩
    have HB_4 := Lib.hid (bt HB_3.out hb)
    have G_4 := Lib.hid (G_3.out.below hb)
    have Z_4 := Lib.hid (Z_3.out.below hb)
    have M_4 := Lib.hid (M_3.out.below hb)
    have X_4 := Lib.hid (X_3.out.below hb)
    have C_4 := Lib.hid (C_3.out.below hb)
    have E_4 := Lib.hid (E_3.out.below hb)
    clear hb gG0 gG1 gG2 rZ0 rZ1 rZ2 rfZ rfZ0 rfZ1 rfZ2 cE
    obtain ⟨gG0, gG1, gG2⟩ := G_4.out
    obtain ⟨rZ0, rZ1, rZ2, rfZ⟩ := Z_4.out
    have rfZ0 := rfZ 0
    have rfZ1 := rfZ 1
    have rfZ2 := rfZ 2
    have cE := E_4.out
    unfold C1 at cE
    go_wp2_with fail
    refine (HX.out _ M_4.out X_4.out C_4.out).mono ?_
    rintro e' v9 ⟨qv, rfl, hq, hb9⟩
    have hin := hq.toIn
    obtain ⟨a1, c1, a2, c2, a3, c3, rfl, _, _, _⟩ := hin.parts
    have HB_9 := Lib.hid (bt HB_4.out hb9)
    have Z_9 := Lib.hid (Z_4.out.below hb9)
    have lz9 := Z_4.out.lt
    have IN := Lib.hid hq
    clear hq hin hb9 rZ0 rZ1 rZ2 rfZ rfZ0 rfZ1 rfZ2
    obtain ⟨rZ0, rZ1, rZ2, rfZ⟩ := Z_9.out
    have rfZ0 := rfZ 0
    have rfZ1 := rfZ 1
    have rfZ2 := rfZ 2
    clear rfZ
    go_wp2
    (try simp only [Exit.inBlock, Exit.then])
    refine bodyPost_ret (v := .tuple #[pv3 a1 p.c.length c1 a2 p.h.length c2 a3 p.r.length c3, .bool true]) ?_ rfl ?_
    · rw [results_cell_tmp rfl]; go_simp
    · have hm5 := mid3 v9 (w.heap.size + 1) (.slice a1 p.c.length c1) (.slice a2 p.h.length c2) (.slice a3 p.r.length c3)
      have hq := IN.out.mid hm5 (.inr (by omega))
      have hsb := HB_4.out.size
      exact ⟨_, _, _, rfl, OwP.wide hq hsb hm5.size, HB_9.out.trans (hm5.toBelow (by omega) HB_9.out.size)⟩

end Go.Proofs.Ytdaekpfngphefaa

/- Sigma proofs: ProveKnowledge and ProveEqual of both. -/
namespace Go.Proofs.Ytdaekpfngphefaa
open Go.RowKit
set_option linter.unusedVariables false
set_option linter.unusedSimpArgs false

theorem know4_lit (W : World) (a x c : Int) (t1 t2 t3 t4 : TypeId) :
    InS (((W.alloc (.cells #[.int .i64 a] t1)).alloc (.cells #[.slice (some ⟨W.heap.size, 0, none⟩) 1 1] t2)).alloc (.cells #[.int .i64 x] t3)).heap.size ((((W.alloc (.cells #[.int .i64 a] t1)).alloc (.cells #[.slice (some ⟨W.heap.size, 0, none⟩) 1 1] t2)).alloc (.cells #[.int .i64 x] t3)).alloc (.cells #[.int .i64 c] t4)) (.slice (some ⟨W.heap.size + 1, 0, none⟩) 1 1) [[a]] ∧ InI (((W.alloc (.cells #[.int .i64 a] t1)).alloc (.cells #[.slice (some ⟨W.heap.size, 0, none⟩) 1 1] t2)).alloc (.cells #[.int .i64 x] t3)).heap.size ((((W.alloc (.cells #[.int .i64 a] t1)).alloc (.cells #[.slice (some ⟨W.heap.size, 0, none⟩) 1 1] t2)).alloc (.cells #[.int .i64 x] t3)).alloc (.cells #[.int .i64 c] t4)) (.slice (some ⟨W.heap.size + 2, 0, none⟩) 1 1) [x] ∧ InI ((((W.alloc (.cells #[.int .i64 a] t1)).alloc (.cells #[.slice (some ⟨W.heap.size, 0, none⟩) 1 1] t2)).alloc (.cells #[.int .i64 x] t3)).alloc (.cells #[.int .i64 c] t4)).heap.size ((((W.alloc (.cells #[.int .i64 a] t1)).alloc (.cells #[.slice (some ⟨W.heap.size, 0, none⟩) 1 1] t2)).alloc (.cells #[.int .i64 x] t3)).alloc (.cells #[.int .i64 c] t4)) (.slice (some ⟨W.heap.size + 3, 0, none⟩) 1 1) [c] := by
  have hk := know_lit W a x t1 t2 t3
  have e4 := one_new (((W.alloc (.cells #[.int .i64 a] t1)).alloc (.cells #[.slice (some ⟨W.heap.size, 0, none⟩) 1 1] t2)).alloc (.cells #[.int .i64 x] t3)) (.int .i64 c) t4
  rw [show (((W.alloc (.cells #[.int .i64 a] t1)).alloc (.cells #[.slice (some ⟨W.heap.size, 0, none⟩) 1 1] t2)).alloc (.cells #[.int .i64 x] t3)).heap.size = W.heap.size + 3 by simp] at e4
  exact ⟨hk.1.below (ba _ _), hk.2.below (ba _ _), one_in e4⟩

set_option maxRecDepth 100000 in
set_option maxHeartbeats 3200000 in
theorem provK_any (P Q G a x c : Int) (s : ByteArray) (hs : s.size ≤ 1048576) (w : World) :
    Calls Try.prog 43 #[gv P Q G, .string s, .int .i64 a, .int .i64 x, .int .i64 c] w (AnsQ w.heap.size w (plV P Q G s [[a]] [x] [c]) (plB P Q G s [[a]] [x] [c])) := by
  have G_0 := Lib.hid ((gr_new w P Q G 32).below (ba _ (.cells #[.slice none 0 0, .slice none 0 0, .slice none 0 0] 36)))
  have hb3 := b3_new (w.alloc (.cells #[.int .i64 P, .int .i64 Q, .int .i64 G] 32)) (.slice none 0 0) (.slice none 0 0) (.slice none 0 0) 36
  rw [show (w.alloc (.cells #[.int .i64 P, .int .i64 Q, .int .i64 G] 32)).heap.size = w.heap.size + 1 by simp] at hb3
  have Z_0 := Lib.hid hb3
  have HB_0 := Lib.hid (bt (ba w (.cells #[.int .i64 P, .int .i64 Q, .int .i64 G] 32)) (ba _ (.cells #[.slice none 0 0, .slice none 0 0, .slice none 0 0] 36)))
  clear hb3
  generalize hrs : ([[a]] : List (List Int)) = rs
  generalize hxs : ([x] : List Int) = xs
  generalize hcs : ([c] : List Int) = cs
  have HRS := Lib.hid hrs
  have HXS := Lib.hid hxs
  have HCS := Lib.hid hcs
  clear hrs hxs hcs
  obtain ⟨p, hp⟩ : ∃ p, plV P Q G s rs xs cs = p := ⟨_, rfl⟩
  obtain ⟨ok, hk0⟩ : ∃ k, plB P Q G s rs xs cs = k := ⟨_, rfl⟩
  have HP := Lib.hid hp
  have HO := Lib.hid hk0
  rw [hp, hk0]
  clear hp hk0
  have hl : rs.length ≤ 1048576 := by rw [← HRS.out]; simp
  have hxl : xs.length ≤ 1048576 := by rw [← HXS.out]; simp
  have hcl : cs.length ≤ 1048576 := by rw [← HCS.out]; simp
  have HRL := Lib.hid (show ∀ z ∈ rs, z.length ≤ 17592186044416 from by rw [← HRS.out]; intro z hz; rw [List.mem_singleton.1 hz]; simp)
  go_enter Try.func43, Try.ntmps43
  generalize hW : (w.alloc (.cells #[.int .i64 P, .int .i64 Q, .int .i64 G] 32)).alloc (.cells #[.slice none 0 0, .slice none 0 0, .slice none 0 0] 36) = W at *
  have HB4 := Lib.hid (bt HB_0.out (bt (bt (bt (ba W (.cells #[.int .i64 a] 3)) (ba _ (.cells #[.slice (some ⟨W.heap.size, 0, none⟩) 1 1] 25))) (ba _ (.cells #[.int .i64 x] 3))) (ba _ (.cells #[.int .i64 c] 3))))
  have Z4 := Lib.hid (Z_0.out.below (bt (bt (bt (ba W (.cells #[.int .i64 a] 3)) (ba _ (.cells #[.slice (some ⟨W.heap.size, 0, none⟩) 1 1] 25))) (ba _ (.cells #[.int .i64 x] 3))) (ba _ (.cells #[.int .i64 c] 3))))
  have hk := know4_lit W a x c 3 25 3 3
  rw [HRS.out, HXS.out, HCS.out] at hk
  have HKL := Lib.hid hk
  clear hk
  obtain ⟨g0, g1, g2⟩ := G_0.out
  obtain ⟨y0, y1, y2, _⟩ := Z4.out
  go_wp2_with fail
  refine (provL_any P Q G s hs hl HRL.out hxl hcl HKL.out.1 HKL.out.2.1 HKL.out.2.2).mono ?_
  rw [HP.out, HO.out]
  rintro e v9 ⟨qa, qb, qc, rfl, hq, hb⟩
  obtain ⟨a1, c1, a2, c2, a3, c3, hsh, _⟩ := hq.toIn.parts
  simp only [Value.agg.injEq, Array.mk.injEq, List.cons.injEq, and_true] at hsh
  obtain ⟨rfl, rfl, rfl⟩ := hsh
  have HB_9 := Lib.hid (bt HB4.out hb)
  have hz9 := Z4.out.below hb
  have lz9 := Z4.out.lt
  have lb4 := HB4.out.size
  have AQ := Lib.hid hq
  have Z_9 := Lib.hid hz9
  clear hq hb hz9 y0 y1 y2 g0 g1 g2
  obtain ⟨y0, y1, y2, yf⟩ := Z_9.out
  have yf0 := yf 0
  have yf1 := yf 1
  have yf2 := yf 2
  clear yf
  go_wp2
  (try simp only [Exit.inBlock, Exit.then])
  refine bodyPost_ret (v := .tuple #[.agg #[.slice a1 p.c.length c1, .slice a2 p.h.length c2, .slice a3 p.r.length c3], .bool ok]) ?_ rfl ?_
  · rw [results_cell_tmp rfl]; go_simp
  · have hm5 := mid3 v9 (w.heap.size + 1) (.slice a1 p.c.length c1) (.slice a2 p.h.length c2) (.slice a3 p.r.length c3)
    have h1 := OwQ.mid AQ.out hm5 (.inr (by omega))
    exact ⟨_, _, _, rfl, OwQ.wide h1 (by omega) hm5.size, HB_9.out.trans (hm5.toBelow (by omega) HB_9.out.size)⟩

set_option maxRecDepth 100000 in
set_option maxHeartbeats 3200000 in
theorem sProvK_any (P Q G a x c : Int) (s : ByteArray) (hs : s.size ≤ 1048576) (w : World) :
    Calls Try.prog 42 #[gv P Q G, .string s, .int .i64 a, .int .i64 x, .int .i64 c] w (AnsN w (plV P Q G s [[a]] [x] [c]) (plB P Q G s [[a]] [x] [c])) := by
  have G_0 := Lib.hid ((gr_new w P Q G 32).below (ba _ (.cells #[.slice none 0 0, .slice none 0 0, .slice none 0 0] 36)))
  have hb3 := b3_new (w.alloc (.cells #[.int .i64 P, .int .i64 Q, .int .i64 G] 32)) (.slice none 0 0) (.slice none 0 0) (.slice none 0 0) 36
  rw [show (w.alloc (.cells #[.int .i64 P, .int .i64 Q, .int .i64 G] 32)).heap.size = w.heap.size + 1 by simp] at hb3
  have Z_0 := Lib.hid hb3
  have HB_0 := Lib.hid (bt (ba w (.cells #[.int .i64 P, .int .i64 Q, .int .i64 G] 32)) (ba _ (.cells #[.slice none 0 0, .slice none 0 0, .slice none 0 0] 36)))
  clear hb3
  generalize hrs : ([[a]] : List (List Int)) = rs
  generalize hxs : ([x] : List Int) = xs
  generalize hcs : ([c] : List Int) = cs
  have HRS := Lib.hid hrs
  have HXS := Lib.hid hxs
  have HCS := Lib.hid hcs
  clear hrs hxs hcs
  obtain ⟨p, hp⟩ : ∃ p, plV P Q G s rs xs cs = p := ⟨_, rfl⟩
  obtain ⟨ok, hk0⟩ : ∃ k, plB P Q G s rs xs cs = k := ⟨_, rfl⟩
  have HP := Lib.hid hp
  have HO := Lib.hid hk0
  rw [hp, hk0]
  clear hp hk0
  have hl : rs.length ≤ 1048576 := by rw [← HRS.out]; simp
  have hxl : xs.length ≤ 1048576 := by rw [← HXS.out]; simp
  have hcl : cs.length ≤ 1048576 := by rw [← HCS.out]; simp
  have HRL := Lib.hid (show ∀ z ∈ rs, z.length ≤ 17592186044416 from by rw [← HRS.out]; intro z hz; rw [List.mem_singleton.1 hz]; simp)
  go_enter Try.func42, Try.ntmps42
  generalize hW : (w.alloc (.cells #[.int .i64 P, .int .i64 Q, .int .i64 G] 32)).alloc (.cells #[.slice none 0 0, .slice none 0 0, .slice none 0 0] 36) = W at *
  have HB4 := Lib.hid (bt HB_0.out (bt (bt (bt (ba W (.cells #[.int .i64 a] 3)) (ba _ (.cells #[.slice (some ⟨W.heap.size, 0, none⟩) 1 1] 25))) (ba _ (.cells #[.int .i64 x] 3))) (ba _ (.cells #[.int .i64 c] 3))))
  have Z4 := Lib.hid (Z_0.out.below (bt (bt (bt (ba W (.cells #[.int .i64 a] 3)) (ba _ (.cells #[.slice (some ⟨W.heap.size, 0, none⟩) 1 1] 25))) (ba _ (.cells #[.int .i64 x] 3))) (ba _ (.cells #[.int .i64 c] 3))))
  have hk := know4_lit W a x c 3 25 3 3
  rw [HRS.out, HXS.out, HCS.out] at hk
  have HKL := Lib.hid hk
  clear hk
  obtain ⟨g0, g1, g2⟩ := G_0.out
  obtain ⟨y0, y1, y2, _⟩ := Z4.out
  go_wp2_with fail
  refine (sProvL_any P Q G s hs hl HRL.out hxl hcl HKL.out.1 HKL.out.2.1 HKL.out.2.2).mono ?_
  rw [HP.out, HO.out]
  rintro e v9 ⟨qa, qb, qc, rfl, hq, hb⟩
  obtain ⟨a1, c1, a2, c2, a3, c3, hsh, _⟩ := hq.toIn.parts
  simp only [Value.agg.injEq, Array.mk.injEq, List.cons.injEq, and_true] at hsh
  obtain ⟨rfl, rfl, rfl⟩ := hsh
  have HB_9 := Lib.hid (bt HB4.out hb)
  have hz9 := Z4.out.below hb
  have lz9 := Z4.out.lt
  have lb4 := HB4.out.size
  have AQ := Lib.hid hq
  have Z_9 := Lib.hid hz9
  clear hq hb hz9 y0 y1 y2 g0 g1 g2
  obtain ⟨y0, y1, y2, yf⟩ := Z_9.out
  have yf0 := yf 0
  have yf1 := yf 1
  have yf2 := yf 2
  clear yf
  go_wp2
  (try simp only [Exit.inBlock, Exit.then])
  refine bodyPost_ret (v := .tuple #[.agg #[.slice a1 p.c.length c1, .slice a2 p.h.length c2, .slice a3 p.r.length c3], .bool ok]) ?_ rfl ?_
  · rw [results_cell_tmp rfl]; go_simp
  · have hm5 := mid3 v9 (w.heap.size + 1) (.slice a1 p.c.length c1) (.slice a2 p.h.length c2) (.slice a3 p.r.length c3)
    have h1 := OwP.mid AQ.out hm5 (.inr (by omega))
    exact ⟨_, _, _, rfl, OwP.wide h1 (by omega) hm5.size, HB_9.out.trans (hm5.toBelow (by omega) HB_9.out.size)⟩

end Go.Proofs.Ytdaekpfngphefaa

/- Sigma proofs: ProveEqual of both. -/
namespace Go.Proofs.Ytdaekpfngphefaa
open Go.RowKit
set_option linter.unusedVariables false
set_option linter.unusedSimpArgs false


/-! ### ProveEqual -/
def peB (P Q G : Int) (s : ByteArray) (a b c d x cn : Int) : Bool := teV P Q G a b c d x && plB P Q G s [[a], [c]] [x] [cn]
def peV (P Q G : Int) (s : ByteArray) (a b c d x cn : Int) : PrD := if peB P Q G s a b c d x cn then spP P Q G s [[a], [c]] [x] [cn] else nilP
theorem pe_off {P Q G : Int} {s : ByteArray} {a b c d x cn : Int} (h : peB P Q G s a b c d x cn = false) : peV P Q G s a b c d x cn = nilP := by simp [peV, h]
theorem pe_pl {P Q G : Int} {s : ByteArray} {a b c d x cn : Int} (h : teV P Q G a b c d x = true) : peB P Q G s a b c d x cn = plB P Q G s [[a], [c]] [x] [cn] ∧ peV P Q G s a b c d x cn = plV P Q G s [[a], [c]] [x] [cn] := by
  have e : peB P Q G s a b c d x cn = plB P Q G s [[a], [c]] [x] [cn] := by unfold peB; rw [h, Bool.true_and]
  refine ⟨e, ?_⟩
  unfold peV plV
  rw [e]
theorem pe_n (P Q G : Int) (s : ByteArray) (a b c d x cn : Int) : (peV P Q G s a b c d x cn).n ≤ 24 := by
  cases h : peB P Q G s a b c d x cn
  · rw [pe_off h]; simp [nilP, PrD.n]
  · have ht : teV P Q G a b c d x = true := by unfold peB at h; exact ((Bool.and_eq_true _ _).mp h).1
    rw [(pe_pl ht).2]; exact pl_n ..
theorem te_true {P Q G a b c d x : Int} : teV P Q G a b c d x = true ↔ goodB P Q G = true ∧ allEl P Q [a, b, c, d] = true ∧ exB Q x = true ∧ isT P a b c d x = true := by simp [teV, teB]; exact ⟨fun ⟨⟨h1, h2, h3⟩, h4⟩ => ⟨h1, h2, h3, h4⟩, fun ⟨h1, h2, h3, h4⟩ => ⟨⟨h1, h2, h3⟩, h4⟩⟩

theorem v4_mid {w w' : World} {b A B : Nat} {x y z t : Int} (h : V4 w b x y z t) (hm : Mid A B w w') (hb : b < A) : V4 w' b x y z t := by
  have hl := h.lt
  have he := hm.block b hl (.inl hb)
  obtain ⟨c0, c1, c2, c3⟩ := h
  refine ⟨?_, ?_, ?_, ?_⟩
  · rw [World.cell?_of_block (a := ⟨b, 0, none⟩) he]; exact c0
  · rw [World.cell?_of_block (a := ⟨b, 1, none⟩) he]; exact c1
  · rw [World.cell?_of_block (a := ⟨b, 2, none⟩) he]; exact c2
  · rw [World.cell?_of_block (a := ⟨b, 3, none⟩) he]; exact c3

set_option maxRecDepth 100000 in
set_option maxHeartbeats 6400000 in
theorem provE_any (P Q G a b c d x cn : Int) (s : ByteArray) (hs : s.size ≤ 1048576) (w : World) :
    Calls Try.prog 45 #[gv P Q G, .string s, ev4 a b c d, .int .i64 x, .int .i64 cn] w (AnsQ w.heap.size w (peV P Q G s a b c d x cn) (peB P Q G s a b c d x cn)) := by
  have G_0 := Lib.hid (((gr_new w P Q G 32).below (ba _ (.cells #[.int .i64 a, .int .i64 b, .int .i64 c, .int .i64 d] 47))).below (ba _ (.cells #[.slice none 0 0, .slice none 0 0, .slice none 0 0] 36)))
  have hv := v4_new (w.alloc (.cells #[.int .i64 P, .int .i64 Q, .int .i64 G] 32)) a b c d 47
  rw [show (w.alloc (.cells #[.int .i64 P, .int .i64 Q, .int .i64 G] 32)).heap.size = w.heap.size + 1 by simp] at hv
  have V_0 := Lib.hid (V4.below hv (ba _ (.cells #[.slice none 0 0, .slice none 0 0, .slice none 0 0] 36)))
  have hb3 := b3_new ((w.alloc (.cells #[.int .i64 P, .int .i64 Q, .int .i64 G] 32)).alloc (.cells #[.int .i64 a, .int .i64 b, .int .i64 c, .int .i64 d] 47)) (.slice none 0 0) (.slice none 0 0) (.slice none 0 0) 36
  rw [show ((w.alloc (.cells #[.int .i64 P, .int .i64 Q, .int .i64 G] 32)).alloc (.cells #[.int .i64 a, .int .i64 b, .int .i64 c, .int .i64 d] 47)).heap.size = w.heap.size + 2 by simp] at hb3
  have Z_0 := Lib.hid hb3
  have HB_0 := Lib.hid (bt (bt (ba w (.cells #[.int .i64 P, .int .i64 Q, .int .i64 G] 32)) (ba _ (.cells #[.int .i64 a, .int .i64 b, .int .i64 c, .int .i64 d] 47))) (ba _ (.cells #[.slice none 0 0, .slice none 0 0, .slice none 0 0] 36)))
  clear hv hb3
  obtain ⟨g0, g1, g2⟩ := G_0.out
  obtain ⟨e0, e1, e2, e3⟩ := V_0.out
  obtain ⟨y0, y1, y2, yf⟩ := Z_0.out
  have yf0 := yf 0
  have yf1 := yf 1
  have yf2 := yf 2
  obtain ⟨tb, htb⟩ : ∃ k, teB P Q G a b c d x = k := ⟨_, rfl⟩
  have HTB := Lib.hid htb
  clear htb yf
  cases ht : teV P Q G a b c d x
  · have E1 := Lib.hid (show peB P Q G s a b c d x cn = false by simp [peB, ht])
    rw [E1.out, pe_off E1.out]
    have HT := Lib.hid ht
    clear ht
    go_enter Try.func45, Try.ntmps45
    go_wp2_with fail
    refine (isTrueEqual_any P Q G a b c d x _).mono ?_
    rw [HT.out, HTB.out]
    rintro e v1 ⟨rfl, hb⟩
    have HB_1 := Lib.hid (bt HB_0.out hb)
    have Z_1 := Lib.hid (Z_0.out.below hb)
    clear hb g0 g1 g2 e0 e1 e2 e3 y0 y1 y2 yf0 yf1 yf2
    obtain ⟨y0, y1, y2, yf⟩ := Z_1.out
    have yf0 := yf 0
    have yf1 := yf 1
    have yf2 := yf 2
    clear yf
    go_wp2
    (try simp only [Exit.inBlock, Exit.then])
    refine bodyPost_ret (v := .tuple #[.agg #[.slice none 0 0, .slice none 0 0, .slice none 0 0], .bool false]) ?_ rfl ?_
    · rw [results_cell_tmp rfl]; go_simp
    · have hm5 := mid3 v1 (w.heap.size + 2) (.slice none 0 0) (.slice none 0 0) (.slice none 0 0)
      exact ⟨_, _, _, rfl, owQ_nil _ _ (Nat.le_trans HB_1.out.size hm5.size), HB_1.out.trans (hm5.toBelow (by omega) HB_1.out.size)⟩
  rw [(pe_pl ht).1, (pe_pl ht).2]
  have HT := Lib.hid ht
  clear ht
  generalize hrs : ([[a], [c]] : List (List Int)) = rs
  generalize hxs : ([x] : List Int) = xs
  generalize hcs : ([cn] : List Int) = cs
  have HRS := Lib.hid hrs
  have HXS := Lib.hid hxs
  have HCS := Lib.hid hcs
  clear hrs hxs hcs
  obtain ⟨p, hp⟩ : ∃ p, plV P Q G s rs xs cs = p := ⟨_, rfl⟩
  obtain ⟨ok, hk0⟩ : ∃ k, plB P Q G s rs xs cs = k := ⟨_, rfl⟩
  have HP := Lib.hid hp
  have HO := Lib.hid hk0
  rw [hp, hk0]
  clear hp hk0
  have hl : rs.length ≤ 1048576 := by rw [← HRS.out]; simp
  have hxl : xs.length ≤ 1048576 := by rw [← HXS.out]; simp
  have hcl : cs.length ≤ 1048576 := by rw [← HCS.out]; simp
  have HRL := Lib.hid (show ∀ z ∈ rs, z.length ≤ 17592186044416 from by rw [← HRS.out]; intro z hz; simp at hz; rcases hz with rfl | rfl <;> simp)
  have hfld : ∀ (x y : Value) (W : World), (Instr.field 90 (.agg #[x, y]) 0).run Try.prog W = .ok x W := fun _ _ _ => by kernel_rfl
  go_enter Try.func45, Try.ntmps45
  go_wp2_with fail
  refine (isTrueEqual_any P Q G a b c d x _).mono ?_
  rw [HT.out, HTB.out]
  rintro e v1 ⟨rfl, hb⟩
  have HB_1 := Lib.hid (bt HB_0.out hb)
  have G_1 := Lib.hid (G_0.out.below hb)
  have V_1 := Lib.hid (V_0.out.below hb)
  have Z_1 := Lib.hid (Z_0.out.below hb)
  clear hb g0 g1 g2 e0 e1 e2 e3 y0 y1 y2 yf0 yf1 yf2
  obtain ⟨g0, g1, g2⟩ := G_1.out
  obtain ⟨e0, e1, e2, e3⟩ := V_1.out
  go_wp2_with fail
  have hbd : Below v1.heap.size v1 v1.drew := (Below.refl _ v1).drew
  have HB_s := Lib.hid (bt HB_1.out hbd)
  have G_s := Lib.hid (G_1.out.below hbd)
  have V_s := Lib.hid (V_1.out.below hbd)
  have Z_s := Lib.hid (Z_1.out.below hbd)
  clear hbd
  refine wp_region_held_drew (S := (fun w' => (w'.cell? ⟨w.heap.size, 0, none⟩ = some (.int .i64 P) ∧ w'.cell? ⟨w.heap.size, 1, none⟩ = some (.int .i64 Q) ∧ w'.cell? ⟨w.heap.size, 2, none⟩ = some (.int .i64 G)) ∧ w'.cell? ⟨w.heap.size + 1, 0, none⟩ = some (.int .i64 a) ∧ w'.cell? ⟨w.heap.size + 1, 1, none⟩ = some (.int .i64 b) ∧ w'.cell? ⟨w.heap.size + 1, 2, none⟩ = some (.int .i64 c) ∧ w'.cell? ⟨w.heap.size + 1, 3, none⟩ = some (.int .i64 d))) (by kernel_rfl) (show _ from ⟨⟨G_1.out.1, G_1.out.2.1, G_1.out.2.2⟩, V_1.out.1, V_1.out.2.1, V_1.out.2.2.1, V_1.out.2.2.2⟩) (fun hHeld => ?_)
  generalize hW0 : v1.drew = Ws at *
  clear hW0
  refine wpAnyH_take (i := 0) (v := ?_) rfl (by kernel_rfl) (by kernel_rfl) (by kernel_rfl) (fun _ _ _ h => h) (Or.inl ⟨by kernel_rfl, ?_⟩) (by assumption) ?_
  rotate_left 1
  · intro w9 hSw
    try dsimp only at hSw
    go_simp
    try with_reducible rfl
  try simp only [Act.put, List.getElem_toArray, List.getElem_cons_succ, List.getElem_cons_zero, List.setIfInBounds_toArray, List.set_cons_zero, List.set_cons_succ]
  refine wpAnyH_take (i := 1) (v := ?_) rfl (by kernel_rfl) (by kernel_rfl) (by kernel_rfl) (fun _ _ _ h => h) (Or.inl ⟨by kernel_rfl, ?_⟩) (by assumption) ?_
  rotate_left 1
  · intro w9 hSw
    try dsimp only at hSw
    go_simp
    try with_reducible rfl
  try simp only [Act.put, List.getElem_toArray, List.getElem_cons_succ, List.getElem_cons_zero, List.setIfInBounds_toArray, List.set_cons_zero, List.set_cons_succ]
  refine wpAnyH_take (i := 2) (v := ?_) rfl (by kernel_rfl) (by kernel_rfl) (by kernel_rfl) (fun _ _ _ h => h) (Or.inl ⟨by kernel_rfl, ?_⟩) (by assumption) ?_
  rotate_left 1
  · intro w9 hSw
    try dsimp only at hSw
    go_simp
    try with_reducible rfl
  try simp only [Act.put, List.getElem_toArray, List.getElem_cons_succ, List.getElem_cons_zero, List.setIfInBounds_toArray, List.set_cons_zero, List.set_cons_succ]
  refine wpAnyH_take (i := 5) (v := ?_) rfl (by kernel_rfl) (by kernel_rfl) (by kernel_rfl) (fun _ _ _ h => h) (Or.inl ⟨by kernel_rfl, ?_⟩) (by assumption) ?_
  rotate_left 1
  · intro w9 hSw
    try dsimp only at hSw
    go_simp
    try with_reducible rfl
  try simp only [Act.put, List.getElem_toArray, List.getElem_cons_succ, List.getElem_cons_zero, List.setIfInBounds_toArray, List.set_cons_zero, List.set_cons_succ]
  refine wpAnyH_take (i := 7) (v := ?_) rfl (by kernel_rfl) (by kernel_rfl) (by kernel_rfl) (fun _ _ _ h => h) (Or.inl ⟨by kernel_rfl, ?_⟩) (by assumption) ?_
  rotate_left 1
  · intro w9 hSw
    try dsimp only at hSw
    go_simp
    try with_reducible rfl
  try simp only [Act.put, List.getElem_toArray, List.getElem_cons_succ, List.getElem_cons_zero, List.setIfInBounds_toArray, List.set_cons_zero, List.set_cons_succ]
  refine wpAnyH_ready (rs := [3, 6, 8]) (by kernel_rfl) (by simp) ?_
  refine AllReadyH.cons rfl (fun K hK => ?_) (AllReadyH.cons rfl (fun K hK => ?_) (AllReadyH.cons rfl (fun K hK => ?_) (AllReadyH.nil)))
  · go_simp
    go_at_call 67
    refine (rows_any a b c d _).mono ?_
    rintro e3 Ws3 ⟨r9, s9, rfl, hr4, hb⟩
    have HB_s3 := Lib.hid (bt HB_s.out hb)
    have G_s3 := Lib.hid (G_s.out.below hb)
    have V_s3 := Lib.hid (V_s.out.below hb)
    have Z_s3 := Lib.hid (Z_s.out.below hb)
    have RL_s3 := Lib.hid (hr4.ins).1
    clear hb hr4
    go_wp2_with fail
    refine hK.out _ _ (show _ from ⟨⟨G_s3.out.1, G_s3.out.2.1, G_s3.out.2.2⟩, V_s3.out.1, V_s3.out.2.1, V_s3.out.2.2.1, V_s3.out.2.2.2⟩) (fun hHeld => ?_)
    clear hK K
    try simp only [Act.put, List.getElem_toArray, List.getElem_cons_succ, List.getElem_cons_zero, List.setIfInBounds_toArray, List.set_cons_zero, List.set_cons_succ]
    refine wpAnyH_take (i := 4) (v := ?_) rfl (by kernel_rfl) (by kernel_rfl) (by kernel_rfl) (fun _ _ _ h => h) (Or.inl ⟨by kernel_rfl, ?_⟩) (by assumption) ?_
    rotate_left 1
    · intro w9 hSw
      try dsimp only at hSw
      go_simp
      try with_reducible rfl
    try simp only [Act.put, List.getElem_toArray, List.getElem_cons_succ, List.getElem_cons_zero, List.setIfInBounds_toArray, List.set_cons_zero, List.set_cons_succ]
    refine wpAnyH_ready (rs := [6, 8]) (by kernel_rfl) (by simp) ?_
    refine AllReadyH.cons rfl (fun K hK => ?_) (AllReadyH.cons rfl (fun K hK => ?_) (AllReadyH.nil))
    · go_simp
      have hb := ba Ws3 (.cells #[.int .i64 x] 3)
      have HB_s36 := Lib.hid (bt HB_s3.out hb)
      have G_s36 := Lib.hid (G_s3.out.below hb)
      have V_s36 := Lib.hid (V_s3.out.below hb)
      have Z_s36 := Lib.hid (Z_s3.out.below hb)
      have RL_s36 := Lib.hid (RL_s3.out.below hb)
      have XL_s36 := Lib.hid (one_in (one_new Ws3 (.int .i64 x) 3))
      clear hb
      refine hK.out _ _ (show _ from ⟨⟨G_s36.out.1, G_s36.out.2.1, G_s36.out.2.2⟩, V_s36.out.1, V_s36.out.2.1, V_s36.out.2.2.1, V_s36.out.2.2.2⟩) (fun hHeld => ?_)
      clear hK K
      try simp only [Act.put, List.getElem_toArray, List.getElem_cons_succ, List.getElem_cons_zero, List.setIfInBounds_toArray, List.set_cons_zero, List.set_cons_succ]
      generalize hW9 : Ws3.alloc (.cells #[.int .i64 x] 3) = Ws36 at *
      clear hW9
      refine wpAnyH_ready (rs := [8]) (by kernel_rfl) (by simp) ?_
      refine AllReadyH.cons rfl (fun K hK => ?_) (AllReadyH.nil)
      · go_simp
        have hb := ba Ws36 (.cells #[.int .i64 cn] 3)
        have HB_s368 := Lib.hid (bt HB_s36.out hb)
        have G_s368 := Lib.hid (G_s36.out.below hb)
        have V_s368 := Lib.hid (V_s36.out.below hb)
        have Z_s368 := Lib.hid (Z_s36.out.below hb)
        have RL_s368 := Lib.hid (RL_s36.out.below hb)
        have XL_s368 := Lib.hid (XL_s36.out.below hb)
        have CL_s368 := Lib.hid (one_in (one_new Ws36 (.int .i64 cn) 3))
        clear hb
        refine hK.out _ _ (show _ from ⟨⟨G_s368.out.1, G_s368.out.2.1, G_s368.out.2.2⟩, V_s368.out.1, V_s368.out.2.1, V_s368.out.2.2.1, V_s368.out.2.2.2⟩) (fun hHeld => ?_)
        clear hK K
        try simp only [Act.put, List.getElem_toArray, List.getElem_cons_succ, List.getElem_cons_zero, List.setIfInBounds_toArray, List.set_cons_zero, List.set_cons_succ]
        generalize hW9 : Ws36.alloc (.cells #[.int .i64 cn] 3) = Ws368 at *
        clear hW9
        refine wpAnyH_ready (rs := [9]) (by kernel_rfl) (by simp) ?_
        refine AllReadyH.cons rfl (fun K hK => ?_) AllReadyH.nil
        go_simp
        go_at_call 37
        refine (provL_any P Q G s hs hl HRL.out hxl hcl (by have h := RL_s368.out; rw [HRS.out] at h; exact h) (by have h := XL_s368.out; rw [HXS.out] at h; exact h) (by have h := CL_s368.out; rw [HCS.out] at h; exact h)).mono ?_
        rw [HP.out, HO.out]
        rintro e9 v9 ⟨qa, qb, qc, rfl, hq, hb⟩
        obtain ⟨a1, c1, a2, c2, a3, c3, rfl, rfl, rfl⟩ := hq.shape
        have HB_z := Lib.hid (bt HB_s368.out hb)
        have G_z := Lib.hid (G_s368.out.below hb)
        have V_z := Lib.hid (V_s368.out.below hb)
        have Z_z := Lib.hid (Z_s368.out.below hb)
        have lz9 := Z_s368.out.lt
        have lb9 := HB_s368.out.size
        have AQ := Lib.hid hq
        clear hq hb
        go_wp2_with fail
        refine hK.out _ _ (show _ from ⟨⟨G_z.out.1, G_z.out.2.1, G_z.out.2.2⟩, V_z.out.1, V_z.out.2.1, V_z.out.2.2.1, V_z.out.2.2.2⟩) (fun hHeld => ?_)
        clear hK K
        try simp only [Act.put, List.getElem_toArray, List.getElem_cons_succ, List.getElem_cons_zero, List.setIfInBounds_toArray, List.set_cons_zero, List.set_cons_succ]
        refine wpAnyH_take (i := 10) (v := ?_) rfl (by kernel_rfl) (by kernel_rfl) (by kernel_rfl) (fun _ _ _ h => h) (Or.inl ⟨by kernel_rfl, ?_⟩) (by assumption) ?_
        rotate_left 1
        · intro w9 hSw
          try dsimp only at hSw
          go_simp
          try with_reducible rfl
        try simp only [Act.put, List.getElem_toArray, List.getElem_cons_succ, List.getElem_cons_zero, List.setIfInBounds_toArray, List.set_cons_zero, List.set_cons_succ]
        refine wpAnyH_take (i := 11) (v := ?_) rfl (by kernel_rfl) (by kernel_rfl) (by kernel_rfl) (fun _ _ _ h => h) (Or.inl ⟨by kernel_rfl, ?_⟩) (by assumption) ?_
        rotate_left 1
        · intro w9 hSw
          try dsimp only at hSw
          go_simp
          try with_reducible rfl
        try simp only [Act.put, List.getElem_toArray, List.getElem_cons_succ, List.getElem_cons_zero, List.setIfInBounds_toArray, List.set_cons_zero, List.set_cons_succ]
        have hm5 := mid3 v9 (w.heap.size + 2) (.slice a1 p.c.length c1) (.slice a2 p.h.length c2) (.slice a3 p.r.length c3)
        have G_y := Lib.hid (G_z.out.mid hm5 (.inl (by omega)))
        have V_y := Lib.hid (v4_mid V_z.out hm5 (by omega))
        have AY := Lib.hid (AQ.out.mid hm5 (.inr (by omega)))
        have HB_y := Lib.hid (HB_z.out.trans (hm5.toBelow (by omega) HB_z.out.size))
        have hs5 := hm5.size
        clear hm5
        refine wpAnyH_ready (rs := [12]) (by kernel_rfl) (by simp) ?_
        refine AllReadyH.cons rfl (fun K hK => ?_) AllReadyH.nil
        obtain ⟨y0, y1, y2, yf⟩ := Z_z.out
        have yf0 := yf 0
        have yf1 := yf 1
        have yf2 := yf 2
        clear yf
        go_simp
        refine hK.out _ _ (show _ from ⟨⟨G_y.out.1, G_y.out.2.1, G_y.out.2.2⟩, V_y.out.1, V_y.out.2.1, V_y.out.2.2.1, V_y.out.2.2.2⟩) (fun hHeld => ?_)
        clear hK K
        try simp only [Act.put, List.getElem_toArray, List.getElem_cons_succ, List.getElem_cons_zero, List.setIfInBounds_toArray, List.set_cons_zero, List.set_cons_succ]
        refine wpAnyH_take (i := 13) (v := ?_) rfl (by kernel_rfl) (by kernel_rfl) (by kernel_rfl) (fun _ _ _ h => h) (Or.inl ⟨by kernel_rfl, ?_⟩) (by assumption) ?_
        rotate_left 1
        · intro w9 hSw
          try dsimp only at hSw
          go_simp
          try with_reducible rfl
        try simp only [Act.put, List.getElem_toArray, List.getElem_cons_succ, List.getElem_cons_zero, List.setIfInBounds_toArray, List.set_cons_zero, List.set_cons_succ]
        refine wpAnyH_done (by kernel_rfl) ?_ _
        go_wp2
        (try simp only [Exit.inBlock, Exit.then])
        refine bodyPost_ret (v := .tuple #[.agg #[.slice a1 p.c.length c1, .slice a2 p.h.length c2, .slice a3 p.r.length c3], .bool ok]) ?_ rfl ?_
        · rw [results_cell_tmp rfl]; go_simp
        · exact ⟨_, _, _, rfl, AY.out.wide (by omega) hs5 (Nat.le_refl _), HB_y.out⟩
    · go_simp
      have hb := ba Ws3 (.cells #[.int .i64 cn] 3)
      have HB_s38 := Lib.hid (bt HB_s3.out hb)
      have G_s38 := Lib.hid (G_s3.out.below hb)
      have V_s38 := Lib.hid (V_s3.out.below hb)
      have Z_s38 := Lib.hid (Z_s3.out.below hb)
      have RL_s38 := Lib.hid (RL_s3.out.below hb)
      have CL_s38 := Lib.hid (one_in (one_new Ws3 (.int .i64 cn) 3))
      clear hb
      refine hK.out _ _ (show _ from ⟨⟨G_s38.out.1, G_s38.out.2.1, G_s38.out.2.2⟩, V_s38.out.1, V_s38.out.2.1, V_s38.out.2.2.1, V_s38.out.2.2.2⟩) (fun hHeld => ?_)
      clear hK K
      try simp only [Act.put, List.getElem_toArray, List.getElem_cons_succ, List.getElem_cons_zero, List.setIfInBounds_toArray, List.set_cons_zero, List.set_cons_succ]
      generalize hW9 : Ws3.alloc (.cells #[.int .i64 cn] 3) = Ws38 at *
      clear hW9
      refine wpAnyH_ready (rs := [6]) (by kernel_rfl) (by simp) ?_
      refine AllReadyH.cons rfl (fun K hK => ?_) (AllReadyH.nil)
      · go_simp
        have hb := ba Ws38 (.cells #[.int .i64 x] 3)
        have HB_s386 := Lib.hid (bt HB_s38.out hb)
        have G_s386 := Lib.hid (G_s38.out.below hb)
        have V_s386 := Lib.hid (V_s38.out.below hb)
        have Z_s386 := Lib.hid (Z_s38.out.below hb)
        have RL_s386 := Lib.hid (RL_s38.out.below hb)
        have CL_s386 := Lib.hid (CL_s38.out.below hb)
        have XL_s386 := Lib.hid (one_in (one_new Ws38 (.int .i64 x) 3))
        clear hb
        refine hK.out _ _ (show _ from ⟨⟨G_s386.out.1, G_s386.out.2.1, G_s386.out.2.2⟩, V_s386.out.1, V_s386.out.2.1, V_s386.out.2.2.1, V_s386.out.2.2.2⟩) (fun hHeld => ?_)
        clear hK K
        try simp only [Act.put, List.getElem_toArray, List.getElem_cons_succ, List.getElem_cons_zero, List.setIfInBounds_toArray, List.set_cons_zero, List.set_cons_succ]
        generalize hW9 : Ws38.alloc (.cells #[.int .i64 x] 3) = Ws386 at *
        clear hW9
        refine wpAnyH_ready (rs := [9]) (by kernel_rfl) (by simp) ?_
        refine AllReadyH.cons rfl (fun K hK => ?_) AllReadyH.nil
        go_simp
        go_at_call 37
        refine (provL_any P Q G s hs hl HRL.out hxl hcl (by have h := RL_s386.out; rw [HRS.out] at h; exact h) (by have h := XL_s386.out; rw [HXS.out] at h; exact h) (by have h := CL_s386.out; rw [HCS.out] at h; exact h)).mono ?_
        rw [HP.out, HO.out]
        rintro e9 v9 ⟨qa, qb, qc, rfl, hq, hb⟩
        obtain ⟨a1, c1, a2, c2, a3, c3, rfl, rfl, rfl⟩ := hq.shape
        have HB_z := Lib.hid (bt HB_s386.out hb)
        have G_z := Lib.hid (G_s386.out.below hb)
        have V_z := Lib.hid (V_s386.out.below hb)
        have Z_z := Lib.hid (Z_s386.out.below hb)
        have lz9 := Z_s386.out.lt
        have lb9 := HB_s386.out.size
        have AQ := Lib.hid hq
        clear hq hb
        go_wp2_with fail
        refine hK.out _ _ (show _ from ⟨⟨G_z.out.1, G_z.out.2.1, G_z.out.2.2⟩, V_z.out.1, V_z.out.2.1, V_z.out.2.2.1, V_z.out.2.2.2⟩) (fun hHeld => ?_)
        clear hK K
        try simp only [Act.put, List.getElem_toArray, List.getElem_cons_succ, List.getElem_cons_zero, List.setIfInBounds_toArray, List.set_cons_zero, List.set_cons_succ]
        refine wpAnyH_take (i := 10) (v := ?_) rfl (by kernel_rfl) (by kernel_rfl) (by kernel_rfl) (fun _ _ _ h => h) (Or.inl ⟨by kernel_rfl, ?_⟩) (by assumption) ?_
        rotate_left 1
        · intro w9 hSw
          try dsimp only at hSw
          go_simp
          try with_reducible rfl
        try simp only [Act.put, List.getElem_toArray, List.getElem_cons_succ, List.getElem_cons_zero, List.setIfInBounds_toArray, List.set_cons_zero, List.set_cons_succ]
        refine wpAnyH_take (i := 11) (v := ?_) rfl (by kernel_rfl) (by kernel_rfl) (by kernel_rfl) (fun _ _ _ h => h) (Or.inl ⟨by kernel_rfl, ?_⟩) (by assumption) ?_
        rotate_left 1
        · intro w9 hSw
          try dsimp only at hSw
          go_simp
          try with_reducible rfl
        try simp only [Act.put, List.getElem_toArray, List.getElem_cons_succ, List.getElem_cons_zero, List.setIfInBounds_toArray, List.set_cons_zero, List.set_cons_succ]
        have hm5 := mid3 v9 (w.heap.size + 2) (.slice a1 p.c.length c1) (.slice a2 p.h.length c2) (.slice a3 p.r.length c3)
        have G_y := Lib.hid (G_z.out.mid hm5 (.inl (by omega)))
        have V_y := Lib.hid (v4_mid V_z.out hm5 (by omega))
        have AY := Lib.hid (AQ.out.mid hm5 (.inr (by omega)))
        have HB_y := Lib.hid (HB_z.out.trans (hm5.toBelow (by omega) HB_z.out.size))
        have hs5 := hm5.size
        clear hm5
        refine wpAnyH_ready (rs := [12]) (by kernel_rfl) (by simp) ?_
        refine AllReadyH.cons rfl (fun K hK => ?_) AllReadyH.nil
        obtain ⟨y0, y1, y2, yf⟩ := Z_z.out
        have yf0 := yf 0
        have yf1 := yf 1
        have yf2 := yf 2
        clear yf
        go_simp
        refine hK.out _ _ (show _ from ⟨⟨G_y.out.1, G_y.out.2.1, G_y.out.2.2⟩, V_y.out.1, V_y.out.2.1, V_y.out.2.2.1, V_y.out.2.2.2⟩) (fun hHeld => ?_)
        clear hK K
        try simp only [Act.put, List.getElem_toArray, List.getElem_cons_succ, List.getElem_cons_zero, List.setIfInBounds_toArray, List.set_cons_zero, List.set_cons_succ]
        refine wpAnyH_take (i := 13) (v := ?_) rfl (by kernel_rfl) (by kernel_rfl) (by kernel_rfl) (fun _ _ _ h => h) (Or.inl ⟨by kernel_rfl, ?_⟩) (by assumption) ?_
        rotate_left 1
        · intro w9 hSw
          try dsimp only at hSw
          go_simp
          try with_reducible rfl
        try simp only [Act.put, List.getElem_toArray, List.getElem_cons_succ, List.getElem_cons_zero, List.setIfInBounds_toArray, List.set_cons_zero, List.set_cons_succ]
        refine wpAnyH_done (by kernel_rfl) ?_ _
        go_wp2
        (try simp only [Exit.inBlock, Exit.then])
        refine bodyPost_ret (v := .tuple #[.agg #[.slice a1 p.c.length c1, .slice a2 p.h.length c2, .slice a3 p.r.length c3], .bool ok]) ?_ rfl ?_
        · rw [results_cell_tmp rfl]; go_simp
        · exact ⟨_, _, _, rfl, AY.out.wide (by omega) hs5 (Nat.le_refl _), HB_y.out⟩
  · go_simp
    have hb := ba Ws (.cells #[.int .i64 x] 3)
    have HB_s6 := Lib.hid (bt HB_s.out hb)
    have G_s6 := Lib.hid (G_s.out.below hb)
    have V_s6 := Lib.hid (V_s.out.below hb)
    have Z_s6 := Lib.hid (Z_s.out.below hb)
    have XL_s6 := Lib.hid (one_in (one_new Ws (.int .i64 x) 3))
    clear hb
    refine hK.out _ _ (show _ from ⟨⟨G_s6.out.1, G_s6.out.2.1, G_s6.out.2.2⟩, V_s6.out.1, V_s6.out.2.1, V_s6.out.2.2.1, V_s6.out.2.2.2⟩) (fun hHeld => ?_)
    clear hK K
    try simp only [Act.put, List.getElem_toArray, List.getElem_cons_succ, List.getElem_cons_zero, List.setIfInBounds_toArray, List.set_cons_zero, List.set_cons_succ]
    generalize hW9 : Ws.alloc (.cells #[.int .i64 x] 3) = Ws6 at *
    clear hW9
    refine wpAnyH_ready (rs := [3, 8]) (by kernel_rfl) (by simp) ?_
    refine AllReadyH.cons rfl (fun K hK => ?_) (AllReadyH.cons rfl (fun K hK => ?_) (AllReadyH.nil))
    · go_simp
      go_at_call 67
      refine (rows_any a b c d _).mono ?_
      rintro e3 Ws63 ⟨r9, s9, rfl, hr4, hb⟩
      have HB_s63 := Lib.hid (bt HB_s6.out hb)
      have G_s63 := Lib.hid (G_s6.out.below hb)
      have V_s63 := Lib.hid (V_s6.out.below hb)
      have Z_s63 := Lib.hid (Z_s6.out.below hb)
      have XL_s63 := Lib.hid (XL_s6.out.below hb)
      have RL_s63 := Lib.hid (hr4.ins).1
      clear hb hr4
      go_wp2_with fail
      refine hK.out _ _ (show _ from ⟨⟨G_s63.out.1, G_s63.out.2.1, G_s63.out.2.2⟩, V_s63.out.1, V_s63.out.2.1, V_s63.out.2.2.1, V_s63.out.2.2.2⟩) (fun hHeld => ?_)
      clear hK K
      try simp only [Act.put, List.getElem_toArray, List.getElem_cons_succ, List.getElem_cons_zero, List.setIfInBounds_toArray, List.set_cons_zero, List.set_cons_succ]
      refine wpAnyH_take (i := 4) (v := ?_) rfl (by kernel_rfl) (by kernel_rfl) (by kernel_rfl) (fun _ _ _ h => h) (Or.inl ⟨by kernel_rfl, ?_⟩) (by assumption) ?_
      rotate_left 1
      · intro w9 hSw
        try dsimp only at hSw
        go_simp
        try with_reducible rfl
      try simp only [Act.put, List.getElem_toArray, List.getElem_cons_succ, List.getElem_cons_zero, List.setIfInBounds_toArray, List.set_cons_zero, List.set_cons_succ]
      refine wpAnyH_ready (rs := [8]) (by kernel_rfl) (by simp) ?_
      refine AllReadyH.cons rfl (fun K hK => ?_) (AllReadyH.nil)
      · go_simp
        have hb := ba Ws63 (.cells #[.int .i64 cn] 3)
        have HB_s638 := Lib.hid (bt HB_s63.out hb)
        have G_s638 := Lib.hid (G_s63.out.below hb)
        have V_s638 := Lib.hid (V_s63.out.below hb)
        have Z_s638 := Lib.hid (Z_s63.out.below hb)
        have XL_s638 := Lib.hid (XL_s63.out.below hb)
        have RL_s638 := Lib.hid (RL_s63.out.below hb)
        have CL_s638 := Lib.hid (one_in (one_new Ws63 (.int .i64 cn) 3))
        clear hb
        refine hK.out _ _ (show _ from ⟨⟨G_s638.out.1, G_s638.out.2.1, G_s638.out.2.2⟩, V_s638.out.1, V_s638.out.2.1, V_s638.out.2.2.1, V_s638.out.2.2.2⟩) (fun hHeld => ?_)
        clear hK K
        try simp only [Act.put, List.getElem_toArray, List.getElem_cons_succ, List.getElem_cons_zero, List.setIfInBounds_toArray, List.set_cons_zero, List.set_cons_succ]
        generalize hW9 : Ws63.alloc (.cells #[.int .i64 cn] 3) = Ws638 at *
        clear hW9
        refine wpAnyH_ready (rs := [9]) (by kernel_rfl) (by simp) ?_
        refine AllReadyH.cons rfl (fun K hK => ?_) AllReadyH.nil
        go_simp
        go_at_call 37
        refine (provL_any P Q G s hs hl HRL.out hxl hcl (by have h := RL_s638.out; rw [HRS.out] at h; exact h) (by have h := XL_s638.out; rw [HXS.out] at h; exact h) (by have h := CL_s638.out; rw [HCS.out] at h; exact h)).mono ?_
        rw [HP.out, HO.out]
        rintro e9 v9 ⟨qa, qb, qc, rfl, hq, hb⟩
        obtain ⟨a1, c1, a2, c2, a3, c3, rfl, rfl, rfl⟩ := hq.shape
        have HB_z := Lib.hid (bt HB_s638.out hb)
        have G_z := Lib.hid (G_s638.out.below hb)
        have V_z := Lib.hid (V_s638.out.below hb)
        have Z_z := Lib.hid (Z_s638.out.below hb)
        have lz9 := Z_s638.out.lt
        have lb9 := HB_s638.out.size
        have AQ := Lib.hid hq
        clear hq hb
        go_wp2_with fail
        refine hK.out _ _ (show _ from ⟨⟨G_z.out.1, G_z.out.2.1, G_z.out.2.2⟩, V_z.out.1, V_z.out.2.1, V_z.out.2.2.1, V_z.out.2.2.2⟩) (fun hHeld => ?_)
        clear hK K
        try simp only [Act.put, List.getElem_toArray, List.getElem_cons_succ, List.getElem_cons_zero, List.setIfInBounds_toArray, List.set_cons_zero, List.set_cons_succ]
        refine wpAnyH_take (i := 10) (v := ?_) rfl (by kernel_rfl) (by kernel_rfl) (by kernel_rfl) (fun _ _ _ h => h) (Or.inl ⟨by kernel_rfl, ?_⟩) (by assumption) ?_
        rotate_left 1
        · intro w9 hSw
          try dsimp only at hSw
          go_simp
          try with_reducible rfl
        try simp only [Act.put, List.getElem_toArray, List.getElem_cons_succ, List.getElem_cons_zero, List.setIfInBounds_toArray, List.set_cons_zero, List.set_cons_succ]
        refine wpAnyH_take (i := 11) (v := ?_) rfl (by kernel_rfl) (by kernel_rfl) (by kernel_rfl) (fun _ _ _ h => h) (Or.inl ⟨by kernel_rfl, ?_⟩) (by assumption) ?_
        rotate_left 1
        · intro w9 hSw
          try dsimp only at hSw
          go_simp
          try with_reducible rfl
        try simp only [Act.put, List.getElem_toArray, List.getElem_cons_succ, List.getElem_cons_zero, List.setIfInBounds_toArray, List.set_cons_zero, List.set_cons_succ]
        have hm5 := mid3 v9 (w.heap.size + 2) (.slice a1 p.c.length c1) (.slice a2 p.h.length c2) (.slice a3 p.r.length c3)
        have G_y := Lib.hid (G_z.out.mid hm5 (.inl (by omega)))
        have V_y := Lib.hid (v4_mid V_z.out hm5 (by omega))
        have AY := Lib.hid (AQ.out.mid hm5 (.inr (by omega)))
        have HB_y := Lib.hid (HB_z.out.trans (hm5.toBelow (by omega) HB_z.out.size))
        have hs5 := hm5.size
        clear hm5
        refine wpAnyH_ready (rs := [12]) (by kernel_rfl) (by simp) ?_
        refine AllReadyH.cons rfl (fun K hK => ?_) AllReadyH.nil
        obtain ⟨y0, y1, y2, yf⟩ := Z_z.out
        have yf0 := yf 0
        have yf1 := yf 1
        have yf2 := yf 2
        clear yf
        go_simp
        refine hK.out _ _ (show _ from ⟨⟨G_y.out.1, G_y.out.2.1, G_y.out.2.2⟩, V_y.out.1, V_y.out.2.1, V_y.out.2.2.1, V_y.out.2.2.2⟩) (fun hHeld => ?_)
        clear hK K
        try simp only [Act.put, List.getElem_toArray, List.getElem_cons_succ, List.getElem_cons_zero, List.setIfInBounds_toArray, List.set_cons_zero, List.set_cons_succ]
        refine wpAnyH_take (i := 13) (v := ?_) rfl (by kernel_rfl) (by kernel_rfl) (by kernel_rfl) (fun _ _ _ h => h) (Or.inl ⟨by kernel_rfl, ?_⟩) (by assumption) ?_
        rotate_left 1
        · intro w9 hSw
          try dsimp only at hSw
          go_simp
          try with_reducible rfl
        try simp only [Act.put, List.getElem_toArray, List.getElem_cons_succ, List.getElem_cons_zero, List.setIfInBounds_toArray, List.set_cons_zero, List.set_cons_succ]
        refine wpAnyH_done (by kernel_rfl) ?_ _
        go_wp2
        (try simp only [Exit.inBlock, Exit.then])
        refine bodyPost_ret (v := .tuple #[.agg #[.slice a1 p.c.length c1, .slice a2 p.h.length c2, .slice a3 p.r.length c3], .bool ok]) ?_ rfl ?_
        · rw [results_cell_tmp rfl]; go_simp
        · exact ⟨_, _, _, rfl, AY.out.wide (by omega) hs5 (Nat.le_refl _), HB_y.out⟩
    · go_simp
      have hb := ba Ws6 (.cells #[.int .i64 cn] 3)
      have HB_s68 := Lib.hid (bt HB_s6.out hb)
      have G_s68 := Lib.hid (G_s6.out.below hb)
      have V_s68 := Lib.hid (V_s6.out.below hb)
      have Z_s68 := Lib.hid (Z_s6.out.below hb)
      have XL_s68 := Lib.hid (XL_s6.out.below hb)
      have CL_s68 := Lib.hid (one_in (one_new Ws6 (.int .i64 cn) 3))
      clear hb
      refine hK.out _ _ (show _ from ⟨⟨G_s68.out.1, G_s68.out.2.1, G_s68.out.2.2⟩, V_s68.out.1, V_s68.out.2.1, V_s68.out.2.2.1, V_s68.out.2.2.2⟩) (fun hHeld => ?_)
      clear hK K
      try simp only [Act.put, List.getElem_toArray, List.getElem_cons_succ, List.getElem_cons_zero, List.setIfInBounds_toArray, List.set_cons_zero, List.set_cons_succ]
      generalize hW9 : Ws6.alloc (.cells #[.int .i64 cn] 3) = Ws68 at *
      clear hW9
      refine wpAnyH_ready (rs := [3]) (by kernel_rfl) (by simp) ?_
      refine AllReadyH.cons rfl (fun K hK => ?_) (AllReadyH.nil)
      · go_simp
        go_at_call 67
        refine (rows_any a b c d _).mono ?_
        rintro e3 Ws683 ⟨r9, s9, rfl, hr4, hb⟩
        have HB_s683 := Lib.hid (bt HB_s68.out hb)
        have G_s683 := Lib.hid (G_s68.out.below hb)
        have V_s683 := Lib.hid (V_s68.out.below hb)
        have Z_s683 := Lib.hid (Z_s68.out.below hb)
        have XL_s683 := Lib.hid (XL_s68.out.below hb)
        have CL_s683 := Lib.hid (CL_s68.out.below hb)
        have RL_s683 := Lib.hid (hr4.ins).1
        clear hb hr4
        go_wp2_with fail
        refine hK.out _ _ (show _ from ⟨⟨G_s683.out.1, G_s683.out.2.1, G_s683.out.2.2⟩, V_s683.out.1, V_s683.out.2.1, V_s683.out.2.2.1, V_s683.out.2.2.2⟩) (fun hHeld => ?_)
        clear hK K
        try simp only [Act.put, List.getElem_toArray, List.getElem_cons_succ, List.getElem_cons_zero, List.setIfInBounds_toArray, List.set_cons_zero, List.set_cons_succ]
        refine wpAnyH_take (i := 4) (v := ?_) rfl (by kernel_rfl) (by kernel_rfl) (by kernel_rfl) (fun _ _ _ h => h) (Or.inl ⟨by kernel_rfl, ?_⟩) (by assumption) ?_
        rotate_left 1
        · intro w9 hSw
          try dsimp only at hSw
          go_simp
          try with_reducible rfl
        try simp only [Act.put, List.getElem_toArray, List.getElem_cons_succ, List.getElem_cons_zero, List.setIfInBounds_toArray, List.set_cons_zero, List.set_cons_succ]
        refine wpAnyH_ready (rs := [9]) (by kernel_rfl) (by simp) ?_
        refine AllReadyH.cons rfl (fun K hK => ?_) AllReadyH.nil
        go_simp
        go_at_call 37
        refine (provL_any P Q G s hs hl HRL.out hxl hcl (by have h := RL_s683.out; rw [HRS.out] at h; exact h) (by have h := XL_s683.out; rw [HXS.out] at h; exact h) (by have h := CL_s683.out; rw [HCS.out] at h; exact h)).mono ?_
        rw [HP.out, HO.out]
        rintro e9 v9 ⟨qa, qb, qc, rfl, hq, hb⟩
        obtain ⟨a1, c1, a2, c2, a3, c3, rfl, rfl, rfl⟩ := hq.shape
        have HB_z := Lib.hid (bt HB_s683.out hb)
        have G_z := Lib.hid (G_s683.out.below hb)
        have V_z := Lib.hid (V_s683.out.below hb)
        have Z_z := Lib.hid (Z_s683.out.below hb)
        have lz9 := Z_s683.out.lt
        have lb9 := HB_s683.out.size
        have AQ := Lib.hid hq
        clear hq hb
        go_wp2_with fail
        refine hK.out _ _ (show _ from ⟨⟨G_z.out.1, G_z.out.2.1, G_z.out.2.2⟩, V_z.out.1, V_z.out.2.1, V_z.out.2.2.1, V_z.out.2.2.2⟩) (fun hHeld => ?_)
        clear hK K
        try simp only [Act.put, List.getElem_toArray, List.getElem_cons_succ, List.getElem_cons_zero, List.setIfInBounds_toArray, List.set_cons_zero, List.set_cons_succ]
        refine wpAnyH_take (i := 10) (v := ?_) rfl (by kernel_rfl) (by kernel_rfl) (by kernel_rfl) (fun _ _ _ h => h) (Or.inl ⟨by kernel_rfl, ?_⟩) (by assumption) ?_
        rotate_left 1
        · intro w9 hSw
          try dsimp only at hSw
          go_simp
          try with_reducible rfl
        try simp only [Act.put, List.getElem_toArray, List.getElem_cons_succ, List.getElem_cons_zero, List.setIfInBounds_toArray, List.set_cons_zero, List.set_cons_succ]
        refine wpAnyH_take (i := 11) (v := ?_) rfl (by kernel_rfl) (by kernel_rfl) (by kernel_rfl) (fun _ _ _ h => h) (Or.inl ⟨by kernel_rfl, ?_⟩) (by assumption) ?_
        rotate_left 1
        · intro w9 hSw
          try dsimp only at hSw
          go_simp
          try with_reducible rfl
        try simp only [Act.put, List.getElem_toArray, List.getElem_cons_succ, List.getElem_cons_zero, List.setIfInBounds_toArray, List.set_cons_zero, List.set_cons_succ]
        have hm5 := mid3 v9 (w.heap.size + 2) (.slice a1 p.c.length c1) (.slice a2 p.h.length c2) (.slice a3 p.r.length c3)
        have G_y := Lib.hid (G_z.out.mid hm5 (.inl (by omega)))
        have V_y := Lib.hid (v4_mid V_z.out hm5 (by omega))
        have AY := Lib.hid (AQ.out.mid hm5 (.inr (by omega)))
        have HB_y := Lib.hid (HB_z.out.trans (hm5.toBelow (by omega) HB_z.out.size))
        have hs5 := hm5.size
        clear hm5
        refine wpAnyH_ready (rs := [12]) (by kernel_rfl) (by simp) ?_
        refine AllReadyH.cons rfl (fun K hK => ?_) AllReadyH.nil
        obtain ⟨y0, y1, y2, yf⟩ := Z_z.out
        have yf0 := yf 0
        have yf1 := yf 1
        have yf2 := yf 2
        clear yf
        go_simp
        refine hK.out _ _ (show _ from ⟨⟨G_y.out.1, G_y.out.2.1, G_y.out.2.2⟩, V_y.out.1, V_y.out.2.1, V_y.out.2.2.1, V_y.out.2.2.2⟩) (fun hHeld => ?_)
        clear hK K
        try simp only [Act.put, List.getElem_toArray, List.getElem_cons_succ, List.getElem_cons_zero, List.setIfInBounds_toArray, List.set_cons_zero, List.set_cons_succ]
        refine wpAnyH_take (i := 13) (v := ?_) rfl (by kernel_rfl) (by kernel_rfl) (by kernel_rfl) (fun _ _ _ h => h) (Or.inl ⟨by kernel_rfl, ?_⟩) (by assumption) ?_
        rotate_left 1
        · intro w9 hSw
          try dsimp only at hSw
          go_simp
          try with_reducible rfl
        try simp only [Act.put, List.getElem_toArray, List.getElem_cons_succ, List.getElem_cons_zero, List.setIfInBounds_toArray, List.set_cons_zero, List.set_cons_succ]
        refine wpAnyH_done (by kernel_rfl) ?_ _
        go_wp2
        (try simp only [Exit.inBlock, Exit.then])
        refine bodyPost_ret (v := .tuple #[.agg #[.slice a1 p.c.length c1, .slice a2 p.h.length c2, .slice a3 p.r.length c3], .bool ok]) ?_ rfl ?_
        · rw [results_cell_tmp rfl]; go_simp
        · exact ⟨_, _, _, rfl, AY.out.wide (by omega) hs5 (Nat.le_refl _), HB_y.out⟩
  · go_simp
    have hb := ba Ws (.cells #[.int .i64 cn] 3)
    have HB_s8 := Lib.hid (bt HB_s.out hb)
    have G_s8 := Lib.hid (G_s.out.below hb)
    have V_s8 := Lib.hid (V_s.out.below hb)
    have Z_s8 := Lib.hid (Z_s.out.below hb)
    have CL_s8 := Lib.hid (one_in (one_new Ws (.int .i64 cn) 3))
    clear hb
    refine hK.out _ _ (show _ from ⟨⟨G_s8.out.1, G_s8.out.2.1, G_s8.out.2.2⟩, V_s8.out.1, V_s8.out.2.1, V_s8.out.2.2.1, V_s8.out.2.2.2⟩) (fun hHeld => ?_)
    clear hK K
    try simp only [Act.put, List.getElem_toArray, List.getElem_cons_succ, List.getElem_cons_zero, List.setIfInBounds_toArray, List.set_cons_zero, List.set_cons_succ]
    generalize hW9 : Ws.alloc (.cells #[.int .i64 cn] 3) = Ws8 at *
    clear hW9
    refine wpAnyH_ready (rs := [3, 6]) (by kernel_rfl) (by simp) ?_
    refine AllReadyH.cons rfl (fun K hK => ?_) (AllReadyH.cons rfl (fun K hK => ?_) (AllReadyH.nil))
    · go_simp
      go_at_call 67
      refine (rows_any a b c d _).mono ?_
      rintro e3 Ws83 ⟨r9, s9, rfl, hr4, hb⟩
      have HB_s83 := Lib.hid (bt HB_s8.out hb)
      have G_s83 := Lib.hid (G_s8.out.below hb)
      have V_s83 := Lib.hid (V_s8.out.below hb)
      have Z_s83 := Lib.hid (Z_s8.out.below hb)
      have CL_s83 := Lib.hid (CL_s8.out.below hb)
      have RL_s83 := Lib.hid (hr4.ins).1
      clear hb hr4
      go_wp2_with fail
      refine hK.out _ _ (show _ from ⟨⟨G_s83.out.1, G_s83.out.2.1, G_s83.out.2.2⟩, V_s83.out.1, V_s83.out.2.1, V_s83.out.2.2.1, V_s83.out.2.2.2⟩) (fun hHeld => ?_)
      clear hK K
      try simp only [Act.put, List.getElem_toArray, List.getElem_cons_succ, List.getElem_cons_zero, List.setIfInBounds_toArray, List.set_cons_zero, List.set_cons_succ]
      refine wpAnyH_take (i := 4) (v := ?_) rfl (by kernel_rfl) (by kernel_rfl) (by kernel_rfl) (fun _ _ _ h => h) (Or.inl ⟨by kernel_rfl, ?_⟩) (by assumption) ?_
      rotate_left 1
      · intro w9 hSw
        try dsimp only at hSw
        go_simp
        try with_reducible rfl
      try simp only [Act.put, List.getElem_toArray, List.getElem_cons_succ, List.getElem_cons_zero, List.setIfInBounds_toArray, List.set_cons_zero, List.set_cons_succ]
      refine wpAnyH_ready (rs := [6]) (by kernel_rfl) (by simp) ?_
      refine AllReadyH.cons rfl (fun K hK => ?_) (AllReadyH.nil)
      · go_simp
        have hb := ba Ws83 (.cells #[.int .i64 x] 3)
        have HB_s836 := Lib.hid (bt HB_s83.out hb)
        have G_s836 := Lib.hid (G_s83.out.below hb)
        have V_s836 := Lib.hid (V_s83.out.below hb)
        have Z_s836 := Lib.hid (Z_s83.out.below hb)
        have CL_s836 := Lib.hid (CL_s83.out.below hb)
        have RL_s836 := Lib.hid (RL_s83.out.below hb)
        have XL_s836 := Lib.hid (one_in (one_new Ws83 (.int .i64 x) 3))
        clear hb
        refine hK.out _ _ (show _ from ⟨⟨G_s836.out.1, G_s836.out.2.1, G_s836.out.2.2⟩, V_s836.out.1, V_s836.out.2.1, V_s836.out.2.2.1, V_s836.out.2.2.2⟩) (fun hHeld => ?_)
        clear hK K
        try simp only [Act.put, List.getElem_toArray, List.getElem_cons_succ, List.getElem_cons_zero, List.setIfInBounds_toArray, List.set_cons_zero, List.set_cons_succ]
        generalize hW9 : Ws83.alloc (.cells #[.int .i64 x] 3) = Ws836 at *
        clear hW9
        refine wpAnyH_ready (rs := [9]) (by kernel_rfl) (by simp) ?_
        refine AllReadyH.cons rfl (fun K hK => ?_) AllReadyH.nil
        go_simp
        go_at_call 37
        refine (provL_any P Q G s hs hl HRL.out hxl hcl (by have h := RL_s836.out; rw [HRS.out] at h; exact h) (by have h := XL_s836.out; rw [HXS.out] at h; exact h) (by have h := CL_s836.out; rw [HCS.out] at h; exact h)).mono ?_
        rw [HP.out, HO.out]
        rintro e9 v9 ⟨qa, qb, qc, rfl, hq, hb⟩
        obtain ⟨a1, c1, a2, c2, a3, c3, rfl, rfl, rfl⟩ := hq.shape
        have HB_z := Lib.hid (bt HB_s836.out hb)
        have G_z := Lib.hid (G_s836.out.below hb)
        have V_z := Lib.hid (V_s836.out.below hb)
        have Z_z := Lib.hid (Z_s836.out.below hb)
        have lz9 := Z_s836.out.lt
        have lb9 := HB_s836.out.size
        have AQ := Lib.hid hq
        clear hq hb
        go_wp2_with fail
        refine hK.out _ _ (show _ from ⟨⟨G_z.out.1, G_z.out.2.1, G_z.out.2.2⟩, V_z.out.1, V_z.out.2.1, V_z.out.2.2.1, V_z.out.2.2.2⟩) (fun hHeld => ?_)
        clear hK K
        try simp only [Act.put, List.getElem_toArray, List.getElem_cons_succ, List.getElem_cons_zero, List.setIfInBounds_toArray, List.set_cons_zero, List.set_cons_succ]
        refine wpAnyH_take (i := 10) (v := ?_) rfl (by kernel_rfl) (by kernel_rfl) (by kernel_rfl) (fun _ _ _ h => h) (Or.inl ⟨by kernel_rfl, ?_⟩) (by assumption) ?_
        rotate_left 1
        · intro w9 hSw
          try dsimp only at hSw
          go_simp
          try with_reducible rfl
        try simp only [Act.put, List.getElem_toArray, List.getElem_cons_succ, List.getElem_cons_zero, List.setIfInBounds_toArray, List.set_cons_zero, List.set_cons_succ]
        refine wpAnyH_take (i := 11) (v := ?_) rfl (by kernel_rfl) (by kernel_rfl) (by kernel_rfl) (fun _ _ _ h => h) (Or.inl ⟨by kernel_rfl, ?_⟩) (by assumption) ?_
        rotate_left 1
        · intro w9 hSw
          try dsimp only at hSw
          go_simp
          try with_reducible rfl
        try simp only [Act.put, List.getElem_toArray, List.getElem_cons_succ, List.getElem_cons_zero, List.setIfInBounds_toArray, List.set_cons_zero, List.set_cons_succ]
        have hm5 := mid3 v9 (w.heap.size + 2) (.slice a1 p.c.length c1) (.slice a2 p.h.length c2) (.slice a3 p.r.length c3)
        have G_y := Lib.hid (G_z.out.mid hm5 (.inl (by omega)))
        have V_y := Lib.hid (v4_mid V_z.out hm5 (by omega))
        have AY := Lib.hid (AQ.out.mid hm5 (.inr (by omega)))
        have HB_y := Lib.hid (HB_z.out.trans (hm5.toBelow (by omega) HB_z.out.size))
        have hs5 := hm5.size
        clear hm5
        refine wpAnyH_ready (rs := [12]) (by kernel_rfl) (by simp) ?_
        refine AllReadyH.cons rfl (fun K hK => ?_) AllReadyH.nil
        obtain ⟨y0, y1, y2, yf⟩ := Z_z.out
        have yf0 := yf 0
        have yf1 := yf 1
        have yf2 := yf 2
        clear yf
        go_simp
        refine hK.out _ _ (show _ from ⟨⟨G_y.out.1, G_y.out.2.1, G_y.out.2.2⟩, V_y.out.1, V_y.out.2.1, V_y.out.2.2.1, V_y.out.2.2.2⟩) (fun hHeld => ?_)
        clear hK K
        try simp only [Act.put, List.getElem_toArray, List.getElem_cons_succ, List.getElem_cons_zero, List.setIfInBounds_toArray, List.set_cons_zero, List.set_cons_succ]
        refine wpAnyH_take (i := 13) (v := ?_) rfl (by kernel_rfl) (by kernel_rfl) (by kernel_rfl) (fun _ _ _ h => h) (Or.inl ⟨by kernel_rfl, ?_⟩) (by assumption) ?_
        rotate_left 1
        · intro w9 hSw
          try dsimp only at hSw
          go_simp
          try with_reducible rfl
        try simp only [Act.put, List.getElem_toArray, List.getElem_cons_succ, List.getElem_cons_zero, List.setIfInBounds_toArray, List.set_cons_zero, List.set_cons_succ]
        refine wpAnyH_done (by kernel_rfl) ?_ _
        go_wp2
        (try simp only [Exit.inBlock, Exit.then])
        refine bodyPost_ret (v := .tuple #[.agg #[.slice a1 p.c.length c1, .slice a2 p.h.length c2, .slice a3 p.r.length c3], .bool ok]) ?_ rfl ?_
        · rw [results_cell_tmp rfl]; go_simp
        · exact ⟨_, _, _, rfl, AY.out.wide (by omega) hs5 (Nat.le_refl _), HB_y.out⟩
    · go_simp
      have hb := ba Ws8 (.cells #[.int .i64 x] 3)
      have HB_s86 := Lib.hid (bt HB_s8.out hb)
      have G_s86 := Lib.hid (G_s8.out.below hb)
      have V_s86 := Lib.hid (V_s8.out.below hb)
      have Z_s86 := Lib.hid (Z_s8.out.below hb)
      have CL_s86 := Lib.hid (CL_s8.out.below hb)
      have XL_s86 := Lib.hid (one_in (one_new Ws8 (.int .i64 x) 3))
      clear hb
      refine hK.out _ _ (show _ from ⟨⟨G_s86.out.1, G_s86.out.2.1, G_s86.out.2.2⟩, V_s86.out.1, V_s86.out.2.1, V_s86.out.2.2.1, V_s86.out.2.2.2⟩) (fun hHeld => ?_)
      clear hK K
      try simp only [Act.put, List.getElem_toArray, List.getElem_cons_succ, List.getElem_cons_zero, List.setIfInBounds_toArray, List.set_cons_zero, List.set_cons_succ]
      generalize hW9 : Ws8.alloc (.cells #[.int .i64 x] 3) = Ws86 at *
      clear hW9
      refine wpAnyH_ready (rs := [3]) (by kernel_rfl) (by simp) ?_
      refine AllReadyH.cons rfl (fun K hK => ?_) (AllReadyH.nil)
      · go_simp
        go_at_call 67
        refine (rows_any a b c d _).mono ?_
        rintro e3 Ws863 ⟨r9, s9, rfl, hr4, hb⟩
        have HB_s863 := Lib.hid (bt HB_s86.out hb)
        have G_s863 := Lib.hid (G_s86.out.below hb)
        have V_s863 := Lib.hid (V_s86.out.below hb)
        have Z_s863 := Lib.hid (Z_s86.out.below hb)
        have CL_s863 := Lib.hid (CL_s86.out.below hb)
        have XL_s863 := Lib.hid (XL_s86.out.below hb)
        have RL_s863 := Lib.hid (hr4.ins).1
        clear hb hr4
        go_wp2_with fail
        refine hK.out _ _ (show _ from ⟨⟨G_s863.out.1, G_s863.out.2.1, G_s863.out.2.2⟩, V_s863.out.1, V_s863.out.2.1, V_s863.out.2.2.1, V_s863.out.2.2.2⟩) (fun hHeld => ?_)
        clear hK K
        try simp only [Act.put, List.getElem_toArray, List.getElem_cons_succ, List.getElem_cons_zero, List.setIfInBounds_toArray, List.set_cons_zero, List.set_cons_succ]
        refine wpAnyH_take (i := 4) (v := ?_) rfl (by kernel_rfl) (by kernel_rfl) (by kernel_rfl) (fun _ _ _ h => h) (Or.inl ⟨by kernel_rfl, ?_⟩) (by assumption) ?_
        rotate_left 1
        · intro w9 hSw
          try dsimp only at hSw
          go_simp
          try with_reducible rfl
        try simp only [Act.put, List.getElem_toArray, List.getElem_cons_succ, List.getElem_cons_zero, List.setIfInBounds_toArray, List.set_cons_zero, List.set_cons_succ]
        refine wpAnyH_ready (rs := [9]) (by kernel_rfl) (by simp) ?_
        refine AllReadyH.cons rfl (fun K hK => ?_) AllReadyH.nil
        go_simp
        go_at_call 37
        refine (provL_any P Q G s hs hl HRL.out hxl hcl (by have h := RL_s863.out; rw [HRS.out] at h; exact h) (by have h := XL_s863.out; rw [HXS.out] at h; exact h) (by have h := CL_s863.out; rw [HCS.out] at h; exact h)).mono ?_
        rw [HP.out, HO.out]
        rintro e9 v9 ⟨qa, qb, qc, rfl, hq, hb⟩
        obtain ⟨a1, c1, a2, c2, a3, c3, rfl, rfl, rfl⟩ := hq.shape
        have HB_z := Lib.hid (bt HB_s863.out hb)
        have G_z := Lib.hid (G_s863.out.below hb)
        have V_z := Lib.hid (V_s863.out.below hb)
        have Z_z := Lib.hid (Z_s863.out.below hb)
        have lz9 := Z_s863.out.lt
        have lb9 := HB_s863.out.size
        have AQ := Lib.hid hq
        clear hq hb
        go_wp2_with fail
        refine hK.out _ _ (show _ from ⟨⟨G_z.out.1, G_z.out.2.1, G_z.out.2.2⟩, V_z.out.1, V_z.out.2.1, V_z.out.2.2.1, V_z.out.2.2.2⟩) (fun hHeld => ?_)
        clear hK K
        try simp only [Act.put, List.getElem_toArray, List.getElem_cons_succ, List.getElem_cons_zero, List.setIfInBounds_toArray, List.set_cons_zero, List.set_cons_succ]
        refine wpAnyH_take (i := 10) (v := ?_) rfl (by kernel_rfl) (by kernel_rfl) (by kernel_rfl) (fun _ _ _ h => h) (Or.inl ⟨by kernel_rfl, ?_⟩) (by assumption) ?_
        rotate_left 1
        · intro w9 hSw
          try dsimp only at hSw
          go_simp
          try with_reducible rfl
        try simp only [Act.put, List.getElem_toArray, List.getElem_cons_succ, List.getElem_cons_zero, List.setIfInBounds_toArray, List.set_cons_zero, List.set_cons_succ]
        refine wpAnyH_take (i := 11) (v := ?_) rfl (by kernel_rfl) (by kernel_rfl) (by kernel_rfl) (fun _ _ _ h => h) (Or.inl ⟨by kernel_rfl, ?_⟩) (by assumption) ?_
        rotate_left 1
        · intro w9 hSw
          try dsimp only at hSw
          go_simp
          try with_reducible rfl
        try simp only [Act.put, List.getElem_toArray, List.getElem_cons_succ, List.getElem_cons_zero, List.setIfInBounds_toArray, List.set_cons_zero, List.set_cons_succ]
        have hm5 := mid3 v9 (w.heap.size + 2) (.slice a1 p.c.length c1) (.slice a2 p.h.length c2) (.slice a3 p.r.length c3)
        have G_y := Lib.hid (G_z.out.mid hm5 (.inl (by omega)))
        have V_y := Lib.hid (v4_mid V_z.out hm5 (by omega))
        have AY := Lib.hid (AQ.out.mid hm5 (.inr (by omega)))
        have HB_y := Lib.hid (HB_z.out.trans (hm5.toBelow (by omega) HB_z.out.size))
        have hs5 := hm5.size
        clear hm5
        refine wpAnyH_ready (rs := [12]) (by kernel_rfl) (by simp) ?_
        refine AllReadyH.cons rfl (fun K hK => ?_) AllReadyH.nil
        obtain ⟨y0, y1, y2, yf⟩ := Z_z.out
        have yf0 := yf 0
        have yf1 := yf 1
        have yf2 := yf 2
        clear yf
        go_simp
        refine hK.out _ _ (show _ from ⟨⟨G_y.out.1, G_y.out.2.1, G_y.out.2.2⟩, V_y.out.1, V_y.out.2.1, V_y.out.2.2.1, V_y.out.2.2.2⟩) (fun hHeld => ?_)
        clear hK K
        try simp only [Act.put, List.getElem_toArray, List.getElem_cons_succ, List.getElem_cons_zero, List.setIfInBounds_toArray, List.set_cons_zero, List.set_cons_succ]
        refine wpAnyH_take (i := 13) (v := ?_) rfl (by kernel_rfl) (by kernel_rfl) (by kernel_rfl) (fun _ _ _ h => h) (Or.inl ⟨by kernel_rfl, ?_⟩) (by assumption) ?_
        rotate_left 1
        · intro w9 hSw
          try dsimp only at hSw
          go_simp
          try with_reducible rfl
        try simp only [Act.put, List.getElem_toArray, List.getElem_cons_succ, List.getElem_cons_zero, List.setIfInBounds_toArray, List.set_cons_zero, List.set_cons_succ]
        refine wpAnyH_done (by kernel_rfl) ?_ _
        go_wp2
        (try simp only [Exit.inBlock, Exit.then])
        refine bodyPost_ret (v := .tuple #[.agg #[.slice a1 p.c.length c1, .slice a2 p.h.length c2, .slice a3 p.r.length c3], .bool ok]) ?_ rfl ?_
        · rw [results_cell_tmp rfl]; go_simp
        · exact ⟨_, _, _, rfl, AY.out.wide (by omega) hs5 (Nat.le_refl _), HB_y.out⟩

theorem two_rows {w : World} {p q r : Nat} {a c : Int} (h1 : V2 w r (.slice (some ⟨p, 0, none⟩) 1 1) (.slice (some ⟨q, 0, none⟩) 1 1)) (h2 : C1 w p 0 (.int .i64 a)) (h3 : C1 w q 0 (.int .i64 c)) : InS w.heap.size w (.slice (some ⟨r, 0, none⟩) 2 2) [[a], [c]] :=
  ⟨Nat.le_refl _, _, _, rfl, (fun h => by cases h), .inr ⟨r, 0, rfl, World.block_lt_of_cell? w _ h1.1, World.block_lt_of_cell? w _ h1.1, fun i z hz => by
    match i, hz with
    | 0, hz => simp at hz; subst hz; exact ⟨_, h1.1, one_in h2⟩
    | 1, hz => simp at hz; subst hz; exact ⟨_, h1.2, one_in h3⟩
    | i + 2, hz => simp at hz⟩⟩
theorem lit5 (W : World) (a c x cn : Int) (t t2 : TypeId) :
    InS (((W.alloc (.cells #[.int .i64 a] t)).alloc (.cells #[.int .i64 c] t)).alloc (.cells #[.slice (some ⟨W.heap.size, 0, none⟩) 1 1, .slice (some ⟨W.heap.size + 1, 0, none⟩) 1 1] t2)).heap.size (((((W.alloc (.cells #[.int .i64 a] t)).alloc (.cells #[.int .i64 c] t)).alloc (.cells #[.slice (some ⟨W.heap.size, 0, none⟩) 1 1, .slice (some ⟨W.heap.size + 1, 0, none⟩) 1 1] t2)).alloc (.cells #[.int .i64 x] t)).alloc (.cells #[.int .i64 cn] t)) (.slice (some ⟨W.heap.size + 2, 0, none⟩) 2 2) [[a], [c]] ∧ InI ((((W.alloc (.cells #[.int .i64 a] t)).alloc (.cells #[.int .i64 c] t)).alloc (.cells #[.slice (some ⟨W.heap.size, 0, none⟩) 1 1, .slice (some ⟨W.heap.size + 1, 0, none⟩) 1 1] t2)).alloc (.cells #[.int .i64 x] t)).heap.size (((((W.alloc (.cells #[.int .i64 a] t)).alloc (.cells #[.int .i64 c] t)).alloc (.cells #[.slice (some ⟨W.heap.size, 0, none⟩) 1 1, .slice (some ⟨W.heap.size + 1, 0, none⟩) 1 1] t2)).alloc (.cells #[.int .i64 x] t)).alloc (.cells #[.int .i64 cn] t)) (.slice (some ⟨W.heap.size + 3, 0, none⟩) 1 1) [x] ∧ InI (((((W.alloc (.cells #[.int .i64 a] t)).alloc (.cells #[.int .i64 c] t)).alloc (.cells #[.slice (some ⟨W.heap.size, 0, none⟩) 1 1, .slice (some ⟨W.heap.size + 1, 0, none⟩) 1 1] t2)).alloc (.cells #[.int .i64 x] t)).alloc (.cells #[.int .i64 cn] t)).heap.size (((((W.alloc (.cells #[.int .i64 a] t)).alloc (.cells #[.int .i64 c] t)).alloc (.cells #[.slice (some ⟨W.heap.size, 0, none⟩) 1 1, .slice (some ⟨W.heap.size + 1, 0, none⟩) 1 1] t2)).alloc (.cells #[.int .i64 x] t)).alloc (.cells #[.int .i64 cn] t)) (.slice (some ⟨W.heap.size + 4, 0, none⟩) 1 1) [cn] ∧ Below W.heap.size W (((((W.alloc (.cells #[.int .i64 a] t)).alloc (.cells #[.int .i64 c] t)).alloc (.cells #[.slice (some ⟨W.heap.size, 0, none⟩) 1 1, .slice (some ⟨W.heap.size + 1, 0, none⟩) 1 1] t2)).alloc (.cells #[.int .i64 x] t)).alloc (.cells #[.int .i64 cn] t)) := by
  have e1 := one_new W (.int .i64 a) t
  have e2 := one_new (W.alloc (.cells #[.int .i64 a] t)) (.int .i64 c) t
  have e3 := v2_new ((W.alloc (.cells #[.int .i64 a] t)).alloc (.cells #[.int .i64 c] t)) (.slice (some ⟨W.heap.size, 0, none⟩) 1 1) (.slice (some ⟨W.heap.size + 1, 0, none⟩) 1 1) t2
  have e4 := one_new (((W.alloc (.cells #[.int .i64 a] t)).alloc (.cells #[.int .i64 c] t)).alloc (.cells #[.slice (some ⟨W.heap.size, 0, none⟩) 1 1, .slice (some ⟨W.heap.size + 1, 0, none⟩) 1 1] t2)) (.int .i64 x) t
  have e5 := one_new ((((W.alloc (.cells #[.int .i64 a] t)).alloc (.cells #[.int .i64 c] t)).alloc (.cells #[.slice (some ⟨W.heap.size, 0, none⟩) 1 1, .slice (some ⟨W.heap.size + 1, 0, none⟩) 1 1] t2)).alloc (.cells #[.int .i64 x] t)) (.int .i64 cn) t
  rw [show (W.alloc (.cells #[.int .i64 a] t)).heap.size = W.heap.size + 1 by simp] at e2
  rw [show ((W.alloc (.cells #[.int .i64 a] t)).alloc (.cells #[.int .i64 c] t)).heap.size = W.heap.size + 2 by simp] at e3
  rw [show (((W.alloc (.cells #[.int .i64 a] t)).alloc (.cells #[.int .i64 c] t)).alloc (.cells #[.slice (some ⟨W.heap.size, 0, none⟩) 1 1, .slice (some ⟨W.heap.size + 1, 0, none⟩) 1 1] t2)).heap.size = W.heap.size + 3 by simp] at e4
  rw [show ((((W.alloc (.cells #[.int .i64 a] t)).alloc (.cells #[.int .i64 c] t)).alloc (.cells #[.slice (some ⟨W.heap.size, 0, none⟩) 1 1, .slice (some ⟨W.heap.size + 1, 0, none⟩) 1 1] t2)).alloc (.cells #[.int .i64 x] t)).heap.size = W.heap.size + 4 by simp] at e5
  exact ⟨(two_rows e3 (e1.below (bt (ba _ _) (ba _ _))) (e2.below (ba _ _))).below (bt (ba _ _) (ba _ _)), (one_in e4).below (ba _ _), one_in e5, bt (bt (bt (bt (ba _ _) (ba _ _)) (ba _ _)) (ba _ _)) (ba _ _)⟩

set_option maxRecDepth 100000 in
set_option maxHeartbeats 3200000 in
theorem sProvE_any (P Q G a b c d x cn : Int) (s : ByteArray) (hs : s.size ≤ 1048576) (w : World) :
    Calls Try.prog 44 #[gv P Q G, .string s, ev4 a b c d, .int .i64 x, .int .i64 cn] w (AnsN w (peV P Q G s a b c d x cn) (peB P Q G s a b c d x cn)) := by
  have G_0 := Lib.hid (((gr_new w P Q G 32).below (ba _ (.cells #[.int .i64 a, .int .i64 b, .int .i64 c, .int .i64 d] 47))).below (ba _ (.cells #[.slice none 0 0, .slice none 0 0, .slice none 0 0] 36)))
  have hv := v4_new (w.alloc (.cells #[.int .i64 P, .int .i64 Q, .int .i64 G] 32)) a b c d 47
  rw [show (w.alloc (.cells #[.int .i64 P, .int .i64 Q, .int .i64 G] 32)).heap.size = w.heap.size + 1 by simp] at hv
  have V_0 := Lib.hid (V4.below hv (ba _ (.cells #[.slice none 0 0, .slice none 0 0, .slice none 0 0] 36)))
  have hb3 := b3_new ((w.alloc (.cells #[.int .i64 P, .int .i64 Q, .int .i64 G] 32)).alloc (.cells #[.int .i64 a, .int .i64 b, .int .i64 c, .int .i64 d] 47)) (.slice none 0 0) (.slice none 0 0) (.slice none 0 0) 36
  rw [show ((w.alloc (.cells #[.int .i64 P, .int .i64 Q, .int .i64 G] 32)).alloc (.cells #[.int .i64 a, .int .i64 b, .int .i64 c, .int .i64 d] 47)).heap.size = w.heap.size + 2 by simp] at hb3
  have Z_0 := Lib.hid hb3
  have HB_0 := Lib.hid (bt (bt (ba w (.cells #[.int .i64 P, .int .i64 Q, .int .i64 G] 32)) (ba _ (.cells #[.int .i64 a, .int .i64 b, .int .i64 c, .int .i64 d] 47))) (ba _ (.cells #[.slice none 0 0, .slice none 0 0, .slice none 0 0] 36)))
  clear hv hb3
  cases ht : teV P Q G a b c d x
  · have E1 := Lib.hid (show peB P Q G s a b c d x cn = false by simp [peB, ht])
    rw [E1.out, pe_off E1.out]
    have HT := Lib.hid ht
    clear ht
    cases htb : teB P Q G a b c d x
    · have HTB := Lib.hid htb
      clear htb
      obtain ⟨g0, g1, g2⟩ := G_0.out
      obtain ⟨e0, e1, e2, e3⟩ := V_0.out
      obtain ⟨y0, y1, y2, yf⟩ := Z_0.out
      have yf0 := yf 0
      have yf1 := yf 1
      have yf2 := yf 2
      clear yf
      go_enter Try.func44, Try.ntmps44
      go_wp2_with fail
      refine (sIsTrueEqual_any P Q G a b c d x _).mono ?_
      rw [HT.out, HTB.out]
      rintro e v1 ⟨rfl, hb⟩
      have HB_1 := Lib.hid (bt HB_0.out hb)
      have G_1 := Lib.hid (G_0.out.below hb)
      have V_1 := Lib.hid (V_0.out.below hb)
      have Z_1 := Lib.hid (Z_0.out.below hb)
      clear hb g0 g1 g2 e0 e1 e2 e3 y0 y1 y2 yf0 yf1 yf2
      obtain ⟨g0, g1, g2⟩ := G_1.out
      obtain ⟨e0, e1, e2, e3⟩ := V_1.out
      obtain ⟨y0, y1, y2, yf⟩ := Z_1.out
      have yf0 := yf 0
      have yf1 := yf 1
      have yf2 := yf 2
      clear yf
      go_wp2
      (try simp only [Exit.inBlock, Exit.then])
      refine bodyPost_ret (v := .tuple #[.agg #[.slice none 0 0, .slice none 0 0, .slice none 0 0], .bool false]) ?_ rfl ?_
      · rw [results_cell_tmp rfl]; go_simp
      · have hm5 := mid3 v1 (w.heap.size + 2) (.slice none 0 0) (.slice none 0 0) (.slice none 0 0)
        exact ⟨_, _, _, rfl, owP_nilP _ _ (Nat.le_trans HB_1.out.size hm5.size), HB_1.out.trans (hm5.toBelow (by omega) HB_1.out.size)⟩
    · have HTB := Lib.hid htb
      clear htb
      obtain ⟨g0, g1, g2⟩ := G_0.out
      obtain ⟨e0, e1, e2, e3⟩ := V_0.out
      obtain ⟨y0, y1, y2, yf⟩ := Z_0.out
      have yf0 := yf 0
      have yf1 := yf 1
      have yf2 := yf 2
      clear yf
      go_enter Try.func44, Try.ntmps44
      go_wp2_with fail
      refine (sIsTrueEqual_any P Q G a b c d x _).mono ?_
      rw [HT.out, HTB.out]
      rintro e v1 ⟨rfl, hb⟩
      have HB_1 := Lib.hid (bt HB_0.out hb)
      have G_1 := Lib.hid (G_0.out.below hb)
      have V_1 := Lib.hid (V_0.out.below hb)
      have Z_1 := Lib.hid (Z_0.out.below hb)
      clear hb g0 g1 g2 e0 e1 e2 e3 y0 y1 y2 yf0 yf1 yf2
      obtain ⟨g0, g1, g2⟩ := G_1.out
      obtain ⟨e0, e1, e2, e3⟩ := V_1.out
      obtain ⟨y0, y1, y2, yf⟩ := Z_1.out
      have yf0 := yf 0
      have yf1 := yf 1
      have yf2 := yf 2
      clear yf
      go_wp2
      (try simp only [Exit.inBlock, Exit.then])
      refine bodyPost_ret (v := .tuple #[.agg #[.slice none 0 0, .slice none 0 0, .slice none 0 0], .bool false]) ?_ rfl ?_
      · rw [results_cell_tmp rfl]; go_simp
      · have hm5 := mid3 v1 (w.heap.size + 2) (.slice none 0 0) (.slice none 0 0) (.slice none 0 0)
        exact ⟨_, _, _, rfl, owP_nilP _ _ (Nat.le_trans HB_1.out.size hm5.size), HB_1.out.trans (hm5.toBelow (by omega) HB_1.out.size)⟩
  have htb : teB P Q G a b c d x = true := by unfold teV at ht; exact ((Bool.and_eq_true _ _).mp ht).1
  have HT := Lib.hid ht
  have HTB := Lib.hid htb
  obtain ⟨hg, hel, hex, _⟩ := te_true.1 ht
  have hQ := (good_rng hg).2.1
  have HQ := Lib.hid (show 0 ≤ Q ∧ Q ≤ 2000000000 from ⟨by omega, hQ.2⟩)
  rw [(pe_pl ht).1, (pe_pl ht).2]
  clear ht htb
  by_cases h40 : 40 < s.size
  · rw [plB_size h40, pl_off (plB_size h40)]
    have hsi : (40 : Int) < (s.size : Int) := by omega
    clear h40 hel hex hg
    obtain ⟨g0, g1, g2⟩ := G_0.out
    obtain ⟨e0, e1, e2, e3⟩ := V_0.out
    obtain ⟨y0, y1, y2, yf⟩ := Z_0.out
    have yf0 := yf 0
    have yf1 := yf 1
    have yf2 := yf 2
    clear yf
    go_enter Try.func44, Try.ntmps44
    go_wp2_with fail
    refine (sIsTrueEqual_any P Q G a b c d x _).mono ?_
    rw [HT.out, HTB.out]
    rintro e v1 ⟨rfl, hb⟩
    have HB_1 := Lib.hid (bt HB_0.out hb)
    have G_1 := Lib.hid (G_0.out.below hb)
    have V_1 := Lib.hid (V_0.out.below hb)
    have Z_1 := Lib.hid (Z_0.out.below hb)
    clear hb g0 g1 g2 e0 e1 e2 e3 y0 y1 y2 yf0 yf1 yf2
    obtain ⟨g0, g1, g2⟩ := G_1.out
    obtain ⟨e0, e1, e2, e3⟩ := V_1.out
    obtain ⟨y0, y1, y2, yf⟩ := Z_1.out
    have yf0 := yf 0
    have yf1 := yf 1
    have yf2 := yf 2
    clear yf
    go_wp2
    (try simp only [Exit.inBlock, Exit.then])
    refine bodyPost_ret (v := .tuple #[.agg #[.slice none 0 0, .slice none 0 0, .slice none 0 0], .bool false]) ?_ rfl ?_
    · rw [results_cell_tmp rfl]; go_simp
    · have hm5 := mid3 v1 (w.heap.size + 2) (.slice none 0 0) (.slice none 0 0) (.slice none 0 0)
      exact ⟨_, _, _, rfl, owP_nilP _ _ (Nat.le_trans HB_1.out.size hm5.size), HB_1.out.trans (hm5.toBelow (by omega) HB_1.out.size)⟩
  have h40 : s.size ≤ 40 := by omega
  have hsi : (s.size : Int) ≤ 40 := by omega
  cases hcn : allIn [cn] 0 (Q - 1)
  · have E1 := Lib.hid (show plB P Q G s [[a], [c]] [x] [cn] = false by simp [plB, hcn])
    rw [E1.out, pl_off E1.out]
    have HCN := Lib.hid hcn
    clear hcn hel hex hg
    obtain ⟨g0, g1, g2⟩ := G_0.out
    obtain ⟨e0, e1, e2, e3⟩ := V_0.out
    obtain ⟨y0, y1, y2, yf⟩ := Z_0.out
    have yf0 := yf 0
    have yf1 := yf 1
    have yf2 := yf 2
    clear yf
    go_enter Try.func44, Try.ntmps44
    go_wp2_with fail
    refine (sIsTrueEqual_any P Q G a b c d x _).mono ?_
    rw [HT.out, HTB.out]
    rintro e v1 ⟨rfl, hb⟩
    have HB_1 := Lib.hid (bt HB_0.out hb)
    have G_1 := Lib.hid (G_0.out.below hb)
    have V_1 := Lib.hid (V_0.out.below hb)
    have Z_1 := Lib.hid (Z_0.out.below hb)
    clear hb g0 g1 g2 e0 e1 e2 e3 y0 y1 y2 yf0 yf1 yf2
    obtain ⟨g0, g1, g2⟩ := G_1.out
    obtain ⟨e0, e1, e2, e3⟩ := V_1.out
    obtain ⟨y0, y1, y2, yf⟩ := Z_1.out
    have yf0 := yf 0
    have yf1 := yf 1
    have yf2 := yf 2
    clear yf
    go_wp2_with fail
    refine (gExps_any P Q G HQ.out _ 1 1 [cn] rfl (by decide) _ (ints_lit v1 [cn] 3)).mono ?_
    rw [HCN.out]
    rintro e v2 ⟨rfl, hb0⟩
    have hb := bt (ba v1 _) hb0
    clear hb0
    have HB_2 := Lib.hid (bt HB_1.out hb)
    have G_2 := Lib.hid (G_1.out.below hb)
    have V_2 := Lib.hid (V_1.out.below hb)
    have Z_2 := Lib.hid (Z_1.out.below hb)
    clear hb g0 g1 g2 e0 e1 e2 e3 y0 y1 y2 yf0 yf1 yf2
    obtain ⟨g0, g1, g2⟩ := G_2.out
    obtain ⟨e0, e1, e2, e3⟩ := V_2.out
    obtain ⟨y0, y1, y2, yf⟩ := Z_2.out
    have yf0 := yf 0
    have yf1 := yf 1
    have yf2 := yf 2
    clear yf
    go_wp2
    (try simp only [Exit.inBlock, Exit.then])
    refine bodyPost_ret (v := .tuple #[.agg #[.slice none 0 0, .slice none 0 0, .slice none 0 0], .bool false]) ?_ rfl ?_
    · rw [results_cell_tmp rfl]; go_simp
    · have hm5 := mid3 v2 (w.heap.size + 2) (.slice none 0 0) (.slice none 0 0) (.slice none 0 0)
      exact ⟨_, _, _, rfl, owP_nilP _ _ (Nat.le_trans HB_2.out.size hm5.size), HB_2.out.trans (hm5.toBelow (by omega) HB_2.out.size)⟩
  have HCN := Lib.hid hcn
  obtain ⟨ha1, hb1, hc1, hd1⟩ : elB P Q a = true ∧ elB P Q b = true ∧ elB P Q c = true ∧ elB P Q d = true := by simpa [allEl] using hel
  have hxi : allIn [x] 0 (Q - 1) = true := (exB_one Q x).trans hex
  have hrb : rowsB P Q [[a], [c]] = true := by simp [rowsB, rowB, wid, allEl, ha1, hc1]
  have hpl : plB P Q G s [[a], [c]] [x] [cn] = true := plB_true.2 ⟨imB_true.2 ⟨hg, hrb, rfl, hxi⟩, rfl, hcn, h40⟩
  rw [hpl, pl_sp hpl]
  have HX := Lib.hid (fun (W : World) (B C D : Nat) (v u t : Value) (q1 : InS B W v [[a], [c]]) (q2 : InI C W u [x]) (q3 : InI D W t [cn]) => sProve_any (rows := [[a], [c]]) (xs := [x]) (cs := [cn]) P Q G hg s (by omega) (by simp) (by simp) (fun r hr => by simp at hr; rcases hr with rfl | rfl <;> simp [allEl, ha1, hc1]) rfl hxi hcn q1 q2 q3)
  obtain ⟨p, hp⟩ : ∃ p, spP P Q G s [[a], [c]] [x] [cn] = p := ⟨_, rfl⟩
  rw [hp] at HX ⊢
  clear hp hpl hrb hxi hcn hel hex ha1 hb1 hc1 hd1 hg
  obtain ⟨g0, g1, g2⟩ := G_0.out
  obtain ⟨e0, e1, e2, e3⟩ := V_0.out
  obtain ⟨y0, y1, y2, yf⟩ := Z_0.out
  have yf0 := yf 0
  have yf1 := yf 1
  have yf2 := yf 2
  clear yf
  go_enter Try.func44, Try.ntmps44
  go_wp2_with fail
  refine (sIsTrueEqual_any P Q G a b c d x _).mono ?_
  rw [HT.out, HTB.out]
  rintro e v1 ⟨rfl, hb⟩
  have HB_1 := Lib.hid (bt HB_0.out hb)
  have G_1 := Lib.hid (G_0.out.below hb)
  have V_1 := Lib.hid (V_0.out.below hb)
  have Z_1 := Lib.hid (Z_0.out.below hb)
  clear hb g0 g1 g2 e0 e1 e2 e3 y0 y1 y2 yf0 yf1 yf2
  obtain ⟨g0, g1, g2⟩ := G_1.out
  obtain ⟨e0, e1, e2, e3⟩ := V_1.out
  obtain ⟨y0, y1, y2, yf⟩ := Z_1.out
  have yf0 := yf 0
  have yf1 := yf 1
  have yf2 := yf 2
  clear yf
  go_wp2_with fail
  refine (gExps_any P Q G HQ.out _ 1 1 [cn] rfl (by decide) _ (ints_lit v1 [cn] 3)).mono ?_
  rw [HCN.out]
  rintro e v2 ⟨rfl, hb0⟩
  have hb := bt (ba v1 _) hb0
  clear hb0
  have HB_2 := Lib.hid (bt HB_1.out hb)
  have G_2 := Lib.hid (G_1.out.below hb)
  have V_2 := Lib.hid (V_1.out.below hb)
  have Z_2 := Lib.hid (Z_1.out.below hb)
  clear hb g0 g1 g2 e0 e1 e2 e3 y0 y1 y2 yf0 yf1 yf2
  obtain ⟨g0, g1, g2⟩ := G_2.out
  obtain ⟨e0, e1, e2, e3⟩ := V_2.out
  obtain ⟨y0, y1, y2, yf⟩ := Z_2.out
  have yf0 := yf 0
  have yf1 := yf 1
  have yf2 := yf 2
  clear yf
  obtain ⟨l1, l2, l3, l4⟩ := lit5 v2 a c x cn 3 25
  have HL1 := Lib.hid l1
  have HL2 := Lib.hid l2
  have HL3 := Lib.hid l3
  have Z5 := Lib.hid (Z_2.out.below l4)
  have HB5 := Lib.hid (bt HB_2.out l4)
  clear l1 l2 l3 l4
  obtain ⟨_, _, f2, _⟩ := V_2.out.below (ba v2 (.cells #[.int .i64 a] 3))
  go_wp2_with fail
  refine (HX.out _ _ _ _ _ _ _ HL1.out HL2.out HL3.out).mono ?_
  rintro e' v9 ⟨qv, rfl, hq, hb9⟩
  have hin := hq.toIn
  obtain ⟨a1, c1, a2, c2, a3, c3, rfl, _, _, _⟩ := hin.parts
  have HB_9 := Lib.hid (bt HB5.out hb9)
  have Z_9 := Lib.hid (Z5.out.below hb9)
  have lz9 := Z5.out.lt
  have lb9 := HB5.out.size
  have IN := Lib.hid hq
  clear hq hin hb9 f2 g0 g1 g2 e0 e1 e2 e3 y0 y1 y2 yf0 yf1 yf2
  obtain ⟨y0, y1, y2, yf⟩ := Z_9.out
  have yf0 := yf 0
  have yf1 := yf 1
  have yf2 := yf 2
  clear yf
  go_wp2
  (try simp only [Exit.inBlock, Exit.then])
  refine bodyPost_ret (v := .tuple #[pv3 a1 p.c.length c1 a2 p.h.length c2 a3 p.r.length c3, .bool true]) ?_ rfl ?_
  · rw [results_cell_tmp rfl]; go_simp
  · have hm5 := mid3 v9 (w.heap.size + 2) (.slice a1 p.c.length c1) (.slice a2 p.h.length c2) (.slice a3 p.r.length c3)
    have hq := IN.out.mid hm5 (.inr (by omega))
    exact ⟨_, _, _, rfl, OwP.wide hq (by omega) hm5.size, HB_9.out.trans (hm5.toBelow (by omega) HB_9.out.size)⟩

end Go.Proofs.Ytdaekpfngphefaa

