/- Sigma proofs: the reference's list that is hashed, and its check of a linear statement. -/
import Derived.Test.YtdaekpfngphefaaSigV
import Derived.Test.YtdaekpfngphefaaWpK
namespace Go.Proofs.Ytdaekpfngphefaa
open Go.RowKit
set_option linter.unusedVariables false
set_option linter.unusedSimpArgs false

set_option maxRecDepth 100000 in
set_option maxHeartbeats 3200000 in
theorem sStatement_any {B C D : Nat} {v u t : Value} {rows : List (List Int)} {im cm : List Int} (hl : rows.length ≤ 8) (hr : nS rows ≤ 1000) (hi8 : im.length ≤ 1000) (hc8 : cm.length ≤ 1048576) {w : World} (hz : InS B w v rows) (hy : InI C w u im) (hc : InI D w t cm) :
    Calls Try.prog 96 #[v, u, t] w (OwnI w (rows.flatten ++ im ++ cm)) := by
  obtain ⟨a1, c1, rfl⟩ := hz.shape
  obtain ⟨b1, d1, rfl⟩ := hy.shape
  obtain ⟨b2, d2, rfl⟩ := hc.shape
  obtain ⟨i0, hi0, hz0, hz1, hz2⟩ := info_parts Try.info3
  have HF := Lib.hid (nS_flat rows)
  have HNS := Lib.hid hr
  generalize hm : rows.length = m at hz hl
  have HM := Lib.hid hm
  generalize hni : im.length = ni at hi8 hy ⊢
  have HNI := Lib.hid hni
  generalize hnc : cm.length = nc at hc8 hc ⊢
  have HNC := Lib.hid hnc
  have Z_0 := Lib.hid hz
  have Y_0 := Lib.hid hy
  have C_0 := Lib.hid hc
  clear hm hz hy hc hr hni hnc
  go_enter Try.func96, Try.ntmps96
  go_wp2_with fail
  go_loopw [7, 12] (fun V K wr => ∃ (k L : Nat) (va : Option Addr) (vc : Nat) (xs : List Int), k ≤ m ∧ K = .int .i64 k ∧ V = .slice va L vc ∧ L = nS (rows.take k) ∧ xs = (rows.take k).flatten ∧ wr.ownsRow w.heap.size 3 1 (.slice va L vc) L (xs.map (Value.int .i64)) ∧ Below w.heap.size w wr) (fun _ K _ => m - (intOf K).toNat)
  case atStart => exact ⟨0, 0, none, 0, [], Nat.zero_le _, rfl, rfl, rfl, rfl, by simpa using World.ownsRow_nil _ _ _ _, Below.refl _ _⟩
  case round =>
    obtain ⟨k, L, va, vc, xs, hk, rfl, rfl, hL, hxs, hown, hbel⟩ := hrel
    have hLb : L ≤ 1000 := by have := nS_drop rows k; have := HNS.out; omega
    have HLX := Lib.hid (And.intro hL hxs)
    have HO := Lib.hid hown
    have HB := Lib.hid hbel
    have Z_1 := Lib.hid (Z_0.out.below hbel)
    clear hL hxs hown hbel
    by_cases hkm : k < m
    · obtain ⟨b, off, a, c, z, rfl, hb, hcc, hin, hd⟩ := Z_1.out.at (k := k) (by have := HM.out; omega)
      have hst := sum_step hd
      have hzL : L + z.length ≤ 1000 := by have := nS_drop rows (k + 1); have := HNS.out; have := HLX.out.1; omega
      have HST := Lib.hid (show L + z.length = nS (rows.take (k + 1)) ∧ xs ++ z = (rows.take (k + 1)).flatten from ⟨by rw [hst.1, HLX.out.1], by rw [hst.2, HLX.out.2]⟩)
      have HI := Lib.hid hin.ints
      generalize hzn : z.length = zn at hcc hzL HST HI
      have HZN := Lib.hid hzn
      clear hst hd hin hzn
      go_wp2_with (at_builtin; refine wpList_append_ints rfl _ _ 25 rfl w.heap.size 3 i0 Try.underlying25 hi0 hz0 hz1 hz2 _ L xs rfl HO.out a zn c z rfl HZN.out HI.out.1 HI.out.2.2.1 (by omega) HB.out.size ?_)
      intro v' w3 hown3 hgrow
      obtain ⟨va', vc', rfl⟩ := own_shape hown3
      have HO3 := Lib.hid (show w3.ownsRow w.heap.size 3 1 (.slice va' (L + zn) vc') (L + zn) ((xs ++ z).map (Value.int .i64)) from by first | exact hown3 | (rw [List.map_append]; exact hown3))
      have HB3 := Lib.hid (HB.out.grown hgrow HB.out.size (fun q hq => (HO.out.lt q hq).1))
      clear hown3 hgrow
      go_wp2_with fail
      go_roundw
      case rel => exact ⟨k + 1, L + zn, va', vc', xs ++ z, by omega, by go_num, rfl, HST.out.1, HST.out.2, HO3.out, HB3.out⟩
      case measure => simp only [intOf]; omega
    · obtain rfl : k = m := by omega
      have e1 : xs = rows.flatten := by rw [HLX.out.2, List.take_of_length_le (by have := HM.out; omega)]
      have HXF := Lib.hid e1
      have Y_1 := Lib.hid (Y_0.out.below HB.out)
      have C_1 := Lib.hid (C_0.out.below HB.out)
      have hbw := HB.out.size
      clear e1
      go_wp2_with (at_builtin; refine wpList_append_ints rfl _ _ 25 rfl w.heap.size 3 i0 Try.underlying25 hi0 hz0 hz1 hz2 _ L xs rfl HO.out b1 ni d1 im rfl HNI.out (Y_1.out.ints).1 (Y_1.out.ints).2.2.1 (by omega) hbw ?_)
      intro v' w3 hown3 hgrow
      obtain ⟨va', vc', rfl⟩ := own_shape hown3
      have HO3 := Lib.hid (show w3.ownsRow w.heap.size 3 1 (.slice va' (L + ni) vc') (L + ni) ((xs ++ im).map (Value.int .i64)) from by first | exact hown3 | (rw [List.map_append]; exact hown3))
      have HB3 := Lib.hid (HB.out.grown hgrow HB.out.size (fun q hq => (HO.out.lt q hq).1))
      have C_3 := Lib.hid (C_0.out.below HB3.out)
      have hbw3 := HB3.out.size
      clear hown3 hgrow
      go_wp2_with (at_builtin; refine wpList_append_ints rfl _ _ 25 rfl w.heap.size 3 i0 Try.underlying25 hi0 hz0 hz1 hz2 _ (L + ni) (xs ++ im) rfl HO3.out b2 nc d2 cm rfl HNC.out (C_3.out.ints).1 (C_3.out.ints).2.2.1 (by omega) hbw3 ?_)
      intro v'' w4 hown4 hgrow
      obtain ⟨va'', vc'', rfl⟩ := own_shape hown4
      have HO4 := Lib.hid (show w4.ownsRow w.heap.size 3 1 (.slice va'' (L + ni + nc) vc'') (L + ni + nc) ((xs ++ im ++ cm).map (Value.int .i64)) from by first | exact hown4 | (simp only [List.map_append, List.append_assoc] at hown4 ⊢; exact hown4))
      have HB4 := Lib.hid (HB3.out.grown hgrow HB3.out.size (fun q hq => (HO3.out.lt q hq).1))
      clear hown4 hgrow
      go_wp2_with fail
      go_ret
      have h4 := HO4.out
      rw [HXF.out] at h4
      exact ⟨_, rfl, owI_mk h4 HB4.out.size, HB4.out⟩

theorem rowOk_step {P e : Int} {rs : List Int} {rows : List (List Int)} {cm im : List Int} {k : Nat} {z : List Int} {x y : Int} (h1 : rows.drop k = z :: rows.drop (k + 1)) (h2 : cm.drop k = x :: cm.drop (k + 1)) (h3 : im.drop k = y :: im.drop (k + 1)) :
    rowOk P e rs (rows.drop k) (cm.drop k) (im.drop k) = (decide (powsFrom P 1 z rs = mulFrom P 1 [x, Num.pow y e P]) && rowOk P e rs (rows.drop (k + 1)) (cm.drop (k + 1)) (im.drop (k + 1))) := by
  rw [h1, h2, h3]; rfl
theorem rowOk_end {P e : Int} {rs : List Int} {rows : List (List Int)} {cm im : List Int} {k : Nat} (h : rows.length ≤ k) : rowOk P e rs (rows.drop k) (cm.drop k) (im.drop k) = true := by
  rw [List.drop_of_length_le h]; rfl

set_option maxRecDepth 100000 in
set_option maxHeartbeats 12800000 in
theorem sVerify_any (P Q G : Int) (hg : goodB P Q G = true) (s : ByteArray) (hs : s.size ≤ 1000000) {B1 B2 B : Nat} {u1 u2 v : Value} {rows : List (List Int)} {im : List Int} {p : PrD} (hrb : rowsB P Q rows = true) (hil : im.length = rows.length) (hie : allEl P Q im = true) (hpn : p.n ≤ 1048576) {w : World} (hu1 : InS B1 w u1 rows) (hu2 : InI B2 w u2 im) (hP : InP B w v p) :
    Calls Try.prog 63 #[gv P Q G, .string s, u1, u2, v] w (EqOut (.bool (svV P Q G s rows im p)) w) := by
  obtain ⟨y1, y2, rfl⟩ := hu1.shape
  obtain ⟨z1, z2, rfl⟩ := hu2.shape
  obtain ⟨a1, c1, a2, c2, a3, c3, rfl, h1, h2, h3⟩ := hP.parts
  have hmo := good_mo hg
  have hgr := good_rng hg
  have hQQ : 0 ≤ Q ∧ Q ≤ 2000000000 := hmo.2
  obtain ⟨hl1b, hl2b, hl3b⟩ : p.c.length ≤ 1152921504606846976 ∧ p.h.length ≤ 1152921504606846976 ∧ p.r.length ≤ 1152921504606846976 := by unfold PrD.n at hpn; omega
  have hlc : p.c.length ≤ 1048576 := by unfold PrD.n at hpn; omega
  obtain ⟨h8, hw8, hrow⟩ := rowsB_true.1 hrb
  have hnr : 0 < rows.length := by omega
  obtain ⟨b0, o0, x0a, x0c, z0, hy1, _, hc0, _, hd0⟩ := hu1.at (k := 0) (by omega)
  rw [Nat.add_zero] at hc0
  subst hy1
  have hw0 := wid_head hd0
  have hnS : nS rows ≤ 1000 := by
    have h9 := flat_len (rows := rows) (m := wid rows) (fun r hr => (hrow r hr).1)
    rw [h9]
    have h10 : rows.length * wid rows ≤ 8 * 8 := Nat.mul_le_mul h8.2 hw8.2
    omega
  have hrl0 : (0 : Int) < (rows.length : Int) := by omega
  have hal := ba (w.alloc (.cells #[.int .i64 P, .int .i64 Q, .int .i64 G] 32)) (.cells #[.slice a1 p.c.length c1, .slice a2 p.h.length c2, .slice a3 p.r.length c3] 36)
  have HB_0 := Lib.hid (bt (ba w (.cells #[.int .i64 P, .int .i64 Q, .int .i64 G] 32)) hal)
  have G_0 := Lib.hid (GR.below (gr_new w P Q G 32) hal)
  have hv := b3_new (w.alloc (.cells #[.int .i64 P, .int .i64 Q, .int .i64 G] 32)) (.slice a1 p.c.length c1) (.slice a2 p.h.length c2) (.slice a3 p.r.length c3) 36
  rw [show (w.alloc (.cells #[.int .i64 P, .int .i64 Q, .int .i64 G] 32)).heap.size = w.heap.size + 1 by simp] at hv
  have V_0 := Lib.hid hv
  have M1_0 := Lib.hid (hu1.below HB_0.out)
  have M2_0 := Lib.hid (hu2.below HB_0.out)
  have C_0 := Lib.hid (h1.below HB_0.out)
  have H_0 := Lib.hid (h2.below HB_0.out)
  have R_0 := Lib.hid (h3.below HB_0.out)
  have X_0 := Lib.hid (C1.below hc0 HB_0.out)
  obtain ⟨r, hr⟩ : ∃ r, svV P Q G s rows im p = r := ⟨_, rfl⟩
  rw [hr]
  have HR := Lib.hid hr
  have HROW := Lib.hid hrow
  have HW0 := Lib.hid hw0
  have HIL := Lib.hid hil
  have HNS := Lib.hid hnS
  clear hal hv h1 h2 h3 hP hu1 hu2 hr hrow hw0 hd0 hc0 hrb hil hnS hpn
  obtain ⟨g0, g1, g2⟩ := G_0.out
  obtain ⟨pv0, pv1, pv2, _⟩ := V_0.out
  go_enter Try.func63, Try.ntmps63
  go_wp2_with fail
  clear g0 g1 g2 pv0 pv1 pv2
  generalize hW : (w.alloc (.cells #[.int .i64 P, .int .i64 Q, .int .i64 G] 32)).alloc (.cells #[.slice a1 p.c.length c1, .slice a2 p.h.length c2, .slice a3 p.r.length c3] 36) = W0 at *
  have HK := Lib.hid (show ∀ w', Below W0.heap.size W0 w' → ((w'.cell? ⟨w.heap.size, 0, none⟩ = some (.int .i64 P) ∧ w'.cell? ⟨w.heap.size, 1, none⟩ = some (.int .i64 Q) ∧ w'.cell? ⟨w.heap.size, 2, none⟩ = some (.int .i64 G)) ∧ (w'.cell? ⟨w.heap.size + 1, 0, none⟩ = some (.slice a1 p.c.length c1) ∧ w'.cell? ⟨w.heap.size + 1, 1, none⟩ = some (.slice a2 p.h.length c2) ∧ w'.cell? ⟨w.heap.size + 1, 2, none⟩ = some (.slice a3 p.r.length c3)) ∧ w'.cell? ⟨b0, o0, none⟩ = some (.slice x0a z0.length x0c)) from fun w' hk => ⟨G_0.out.below hk, ⟨(V_0.out.below hk).1, (V_0.out.below hk).2.1, (V_0.out.below hk).2.2.1⟩, C1.below X_0.out hk⟩)
  clear hW
  by_cases h0 : ¬ p.c.length = rows.length
  · have i0 : ((p.c.length : Int) != (rows.length : Int)) = true := by simp; omega
    obtain rfl : r = false := HR.out.symm.trans (by simp only [svV]; simp [h0])
    clear h0
    refine wp_region_held_drew (S := (fun w' => (w'.cell? ⟨w.heap.size, 0, none⟩ = some (.int .i64 P) ∧ w'.cell? ⟨w.heap.size, 1, none⟩ = some (.int .i64 Q) ∧ w'.cell? ⟨w.heap.size, 2, none⟩ = some (.int .i64 G)) ∧ (w'.cell? ⟨w.heap.size + 1, 0, none⟩ = some (.slice a1 p.c.length c1) ∧ w'.cell? ⟨w.heap.size + 1, 1, none⟩ = some (.slice a2 p.h.length c2) ∧ w'.cell? ⟨w.heap.size + 1, 2, none⟩ = some (.slice a3 p.r.length c3)) ∧ w'.cell? ⟨b0, o0, none⟩ = some (.slice x0a z0.length x0c))) (by kernel_rfl) (by first | exact HK.out _ (Below.refl _ W0).drew | (dsimp only; exact HK.out _ (Below.refl _ W0).drew)) (fun hHeld => ?_)
    refine wpAnyH_take (i := 0) (v := ?_) rfl (by kernel_rfl) (by kernel_rfl) (by kernel_rfl) (fun _ _ _ h => h) (Or.inl ⟨by kernel_rfl, ?_⟩) (by assumption) ?_
    rotate_left 1
    · intro w hSw
      try dsimp only at hSw
      go_simp
      try with_reducible rfl
    try simp only [Act.put, List.getElem_toArray, List.getElem_cons_succ, List.getElem_cons_zero, List.setIfInBounds_toArray, List.set_cons_zero, List.set_cons_succ]
    refine wpAnyH_take (i := 1) (v := ?_) rfl (by kernel_rfl) (by kernel_rfl) (by kernel_rfl) (fun _ _ _ h => h) (Or.inl ⟨by kernel_rfl, ?_⟩) (by assumption) ?_
    rotate_left 1
    · intro w hSw
      try dsimp only at hSw
      go_simp
      try with_reducible rfl
    try simp only [Act.put, List.getElem_toArray, List.getElem_cons_succ, List.getElem_cons_zero, List.setIfInBounds_toArray, List.set_cons_zero, List.set_cons_succ]
    refine wpAnyH_take (i := 2) (v := ?_) rfl (by kernel_rfl) (by kernel_rfl) (by kernel_rfl) (fun _ _ _ h => h) (Or.inl ⟨by kernel_rfl, ?_⟩) (by assumption) ?_
    rotate_left 1
    · intro w hSw
      try dsimp only at hSw
      go_simp
      try with_reducible rfl
    try simp only [Act.put, List.getElem_toArray, List.getElem_cons_succ, List.getElem_cons_zero, List.setIfInBounds_toArray, List.set_cons_zero, List.set_cons_succ]
    refine wpAnyH_take (i := 3) (v := ?_) rfl (by kernel_rfl) (by kernel_rfl) (by kernel_rfl) (fun _ _ _ h => h) (Or.inl ⟨by kernel_rfl, ?_⟩) (by assumption) ?_
    rotate_left 1
    · intro w hSw
      try dsimp only at hSw
      go_simp
      try with_reducible rfl
    try simp only [Act.put, List.getElem_toArray, List.getElem_cons_succ, List.getElem_cons_zero, List.setIfInBounds_toArray, List.set_cons_zero, List.set_cons_succ]
    refine wpAnyH_take (i := 4) (v := ?_) rfl (by kernel_rfl) (by kernel_rfl) (by kernel_rfl) (fun _ _ _ h => h) (Or.inl ⟨by kernel_rfl, ?_⟩) (by assumption) ?_
    rotate_left 1
    · intro w hSw
      try dsimp only at hSw
      go_simp
      try with_reducible rfl
    try simp only [Act.put, List.getElem_toArray, List.getElem_cons_succ, List.getElem_cons_zero, List.setIfInBounds_toArray, List.set_cons_zero, List.set_cons_succ]
    refine wpAnyH_take (i := 5) (v := ?_) rfl (by kernel_rfl) (by kernel_rfl) (by kernel_rfl) (fun _ _ _ h => h) (Or.inl ⟨by kernel_rfl, ?_⟩) (by assumption) ?_
    rotate_left 1
    · intro w hSw
      try dsimp only at hSw
      go_simp
      try with_reducible rfl
    try simp only [Act.put, List.getElem_toArray, List.getElem_cons_succ, List.getElem_cons_zero, List.setIfInBounds_toArray, List.set_cons_zero, List.set_cons_succ]
    refine wpAnyH_take (i := 6) (v := ?_) rfl (by kernel_rfl) (by kernel_rfl) (by kernel_rfl) (fun _ _ _ h => h) (Or.inl ⟨by kernel_rfl, ?_⟩) (by assumption) ?_
    rotate_left 1
    · intro w hSw
      try dsimp only at hSw
      go_simp
      try with_reducible rfl
    try simp only [Act.put, List.getElem_toArray, List.getElem_cons_succ, List.getElem_cons_zero, List.setIfInBounds_toArray, List.set_cons_zero, List.set_cons_succ]
    refine wpAnyH_take (i := 7) (v := undef) rfl (by kernel_rfl) (by kernel_rfl) (by kernel_rfl) (fun _ _ _ h => h) (Or.inr ⟨by kernel_rfl, rfl⟩) (by assumption) ?_
    try simp only [Act.put, List.getElem_toArray, List.getElem_cons_succ, List.getElem_cons_zero, List.setIfInBounds_toArray, List.set_cons_zero, List.set_cons_succ]
    refine wpAnyH_take (i := 8) (v := undef) rfl (by kernel_rfl) (by kernel_rfl) (by kernel_rfl) (fun _ _ _ h => h) (Or.inr ⟨by kernel_rfl, rfl⟩) (by assumption) ?_
    try simp only [Act.put, List.getElem_toArray, List.getElem_cons_succ, List.getElem_cons_zero, List.setIfInBounds_toArray, List.set_cons_zero, List.set_cons_succ]
    refine wpAnyH_take (i := 9) (v := undef) rfl (by kernel_rfl) (by kernel_rfl) (by kernel_rfl) (fun _ _ _ h => h) (Or.inr ⟨by kernel_rfl, rfl⟩) (by assumption) ?_
    try simp only [Act.put, List.getElem_toArray, List.getElem_cons_succ, List.getElem_cons_zero, List.setIfInBounds_toArray, List.set_cons_zero, List.set_cons_succ]
    refine wpAnyH_take (i := 10) (v := undef) rfl (by kernel_rfl) (by kernel_rfl) (by kernel_rfl) (fun _ _ _ h => h) (Or.inr ⟨by kernel_rfl, rfl⟩) (by assumption) ?_
    try simp only [Act.put, List.getElem_toArray, List.getElem_cons_succ, List.getElem_cons_zero, List.setIfInBounds_toArray, List.set_cons_zero, List.set_cons_succ]
    refine wpAnyH_take (i := 11) (v := ?_) rfl (by kernel_rfl) (by kernel_rfl) (by kernel_rfl) (fun _ _ _ h => h) (Or.inl ⟨by kernel_rfl, ?_⟩) (by assumption) ?_
    rotate_left 1
    · intro w hSw
      try dsimp only at hSw
      go_simp
      try with_reducible rfl
    try simp only [Act.put, List.getElem_toArray, List.getElem_cons_succ, List.getElem_cons_zero, List.setIfInBounds_toArray, List.set_cons_zero, List.set_cons_succ]
    refine wpAnyH_take (i := 12) (v := ?_) rfl (by kernel_rfl) (by kernel_rfl) (by kernel_rfl) (fun _ _ _ h => h) (Or.inl ⟨by kernel_rfl, ?_⟩) (by assumption) ?_
    rotate_left 1
    · intro w hSw
      try dsimp only at hSw
      go_simp
      try with_reducible rfl
    try simp only [Act.put, List.getElem_toArray, List.getElem_cons_succ, List.getElem_cons_zero, List.setIfInBounds_toArray, List.set_cons_zero, List.set_cons_succ]
    refine wpAnyH_take (i := 13) (v := undef) rfl (by kernel_rfl) (by kernel_rfl) (by kernel_rfl) (fun _ _ _ h => h) (Or.inr ⟨by kernel_rfl, rfl⟩) (by assumption) ?_
    try simp only [Act.put, List.getElem_toArray, List.getElem_cons_succ, List.getElem_cons_zero, List.setIfInBounds_toArray, List.set_cons_zero, List.set_cons_succ]
    refine wpAnyH_take (i := 14) (v := undef) rfl (by kernel_rfl) (by kernel_rfl) (by kernel_rfl) (fun _ _ _ h => h) (Or.inr ⟨by kernel_rfl, rfl⟩) (by assumption) ?_
    try simp only [Act.put, List.getElem_toArray, List.getElem_cons_succ, List.getElem_cons_zero, List.setIfInBounds_toArray, List.set_cons_zero, List.set_cons_succ]
    refine wpAnyH_take (i := 15) (v := undef) rfl (by kernel_rfl) (by kernel_rfl) (by kernel_rfl) (fun _ _ _ h => h) (Or.inr ⟨by kernel_rfl, rfl⟩) (by assumption) ?_
    try simp only [Act.put, List.getElem_toArray, List.getElem_cons_succ, List.getElem_cons_zero, List.setIfInBounds_toArray, List.set_cons_zero, List.set_cons_succ]
    refine wpAnyH_take (i := 16) (v := undef) rfl (by kernel_rfl) (by kernel_rfl) (by kernel_rfl) (fun _ _ _ h => h) (Or.inr ⟨by kernel_rfl, rfl⟩) (by assumption) ?_
    try simp only [Act.put, List.getElem_toArray, List.getElem_cons_succ, List.getElem_cons_zero, List.setIfInBounds_toArray, List.set_cons_zero, List.set_cons_succ]
    refine wpAnyH_take (i := 17) (v := undef) rfl (by kernel_rfl) (by kernel_rfl) (by kernel_rfl) (fun _ _ _ h => h) (Or.inr ⟨by kernel_rfl, rfl⟩) (by assumption) ?_
    try simp only [Act.put, List.getElem_toArray, List.getElem_cons_succ, List.getElem_cons_zero, List.setIfInBounds_toArray, List.set_cons_zero, List.set_cons_succ]
    refine wpAnyH_take (i := 18) (v := undef) rfl (by kernel_rfl) (by kernel_rfl) (by kernel_rfl) (fun _ _ _ h => h) (Or.inr ⟨by kernel_rfl, rfl⟩) (by assumption) ?_
    try simp only [Act.put, List.getElem_toArray, List.getElem_cons_succ, List.getElem_cons_zero, List.setIfInBounds_toArray, List.set_cons_zero, List.set_cons_succ]
    refine wpAnyH_take (i := 19) (v := undef) rfl (by kernel_rfl) (by kernel_rfl) (by kernel_rfl) (fun _ _ _ h => h) (Or.inr ⟨by kernel_rfl, rfl⟩) (by assumption) ?_
    try simp only [Act.put, List.getElem_toArray, List.getElem_cons_succ, List.getElem_cons_zero, List.setIfInBounds_toArray, List.set_cons_zero, List.set_cons_succ]
    refine wpAnyH_take (i := 20) (v := undef) rfl (by kernel_rfl) (by kernel_rfl) (by kernel_rfl) (fun _ _ _ h => h) (Or.inr ⟨by kernel_rfl, rfl⟩) (by assumption) ?_
    try simp only [Act.put, List.getElem_toArray, List.getElem_cons_succ, List.getElem_cons_zero, List.setIfInBounds_toArray, List.set_cons_zero, List.set_cons_succ]
    refine wpAnyH_take (i := 21) (v := ?_) rfl (by kernel_rfl) (by kernel_rfl) (by kernel_rfl) (fun _ _ _ h => h) (Or.inl ⟨by kernel_rfl, ?_⟩) (by assumption) ?_
    rotate_left 1
    · intro w hSw
      try dsimp only at hSw
      go_simp
      try with_reducible rfl
    try simp only [Act.put, List.getElem_toArray, List.getElem_cons_succ, List.getElem_cons_zero, List.setIfInBounds_toArray, List.set_cons_zero, List.set_cons_succ]
    refine wpAnyH_take (i := 22) (v := ?_) rfl (by kernel_rfl) (by kernel_rfl) (by kernel_rfl) (fun _ _ _ h => h) (Or.inl ⟨by kernel_rfl, ?_⟩) (by assumption) ?_
    rotate_left 1
    · intro w hSw
      try dsimp only at hSw
      go_simp
      try with_reducible rfl
    try simp only [Act.put, List.getElem_toArray, List.getElem_cons_succ, List.getElem_cons_zero, List.setIfInBounds_toArray, List.set_cons_zero, List.set_cons_succ]
    refine wpAnyH_take (i := 23) (v := undef) rfl (by kernel_rfl) (by kernel_rfl) (by kernel_rfl) (fun _ _ _ h => h) (Or.inr ⟨by kernel_rfl, rfl⟩) (by assumption) ?_
    try simp only [Act.put, List.getElem_toArray, List.getElem_cons_succ, List.getElem_cons_zero, List.setIfInBounds_toArray, List.set_cons_zero, List.set_cons_succ]
    refine wpAnyH_take (i := 24) (v := undef) rfl (by kernel_rfl) (by kernel_rfl) (by kernel_rfl) (fun _ _ _ h => h) (Or.inr ⟨by kernel_rfl, rfl⟩) (by assumption) ?_
    try simp only [Act.put, List.getElem_toArray, List.getElem_cons_succ, List.getElem_cons_zero, List.setIfInBounds_toArray, List.set_cons_zero, List.set_cons_succ]
    refine wpAnyH_take (i := 25) (v := undef) rfl (by kernel_rfl) (by kernel_rfl) (by kernel_rfl) (fun _ _ _ h => h) (Or.inr ⟨by kernel_rfl, rfl⟩) (by assumption) ?_
    try simp only [Act.put, List.getElem_toArray, List.getElem_cons_succ, List.getElem_cons_zero, List.setIfInBounds_toArray, List.set_cons_zero, List.set_cons_succ]
    refine wpAnyH_take (i := 26) (v := undef) rfl (by kernel_rfl) (by kernel_rfl) (by kernel_rfl) (fun _ _ _ h => h) (Or.inr ⟨by kernel_rfl, rfl⟩) (by assumption) ?_
    try simp only [Act.put, List.getElem_toArray, List.getElem_cons_succ, List.getElem_cons_zero, List.setIfInBounds_toArray, List.set_cons_zero, List.set_cons_succ]
    refine wpAnyH_take (i := 27) (v := undef) rfl (by kernel_rfl) (by kernel_rfl) (by kernel_rfl) (fun _ _ _ h => h) (Or.inr ⟨by kernel_rfl, rfl⟩) (by assumption) ?_
    try simp only [Act.put, List.getElem_toArray, List.getElem_cons_succ, List.getElem_cons_zero, List.setIfInBounds_toArray, List.set_cons_zero, List.set_cons_succ]
    refine wpAnyH_take (i := 28) (v := ?_) rfl (by kernel_rfl) (by kernel_rfl) (by kernel_rfl) (fun _ _ _ h => h) (Or.inl ⟨by kernel_rfl, ?_⟩) (by assumption) ?_
    rotate_left 1
    · intro w hSw
      try dsimp only at hSw
      go_simp
      try with_reducible rfl
    try simp only [Act.put, List.getElem_toArray, List.getElem_cons_succ, List.getElem_cons_zero, List.setIfInBounds_toArray, List.set_cons_zero, List.set_cons_succ]
    refine wpAnyH_take (i := 29) (v := ?_) rfl (by kernel_rfl) (by kernel_rfl) (by kernel_rfl) (fun _ _ _ h => h) (Or.inl ⟨by kernel_rfl, ?_⟩) (by assumption) ?_
    rotate_left 1
    · intro w hSw
      try dsimp only at hSw
      go_simp
      try with_reducible rfl
    try simp only [Act.put, List.getElem_toArray, List.getElem_cons_succ, List.getElem_cons_zero, List.setIfInBounds_toArray, List.set_cons_zero, List.set_cons_succ]
    refine wpAnyH_take (i := 30) (v := undef) rfl (by kernel_rfl) (by kernel_rfl) (by kernel_rfl) (fun _ _ _ h => h) (Or.inr ⟨by kernel_rfl, rfl⟩) (by assumption) ?_
    try simp only [Act.put, List.getElem_toArray, List.getElem_cons_succ, List.getElem_cons_zero, List.setIfInBounds_toArray, List.set_cons_zero, List.set_cons_succ]
    refine wpAnyH_take (i := 31) (v := undef) rfl (by kernel_rfl) (by kernel_rfl) (by kernel_rfl) (fun _ _ _ h => h) (Or.inr ⟨by kernel_rfl, rfl⟩) (by assumption) ?_
    try simp only [Act.put, List.getElem_toArray, List.getElem_cons_succ, List.getElem_cons_zero, List.setIfInBounds_toArray, List.set_cons_zero, List.set_cons_succ]
    refine wpAnyH_take (i := 32) (v := undef) rfl (by kernel_rfl) (by kernel_rfl) (by kernel_rfl) (fun _ _ _ h => h) (Or.inr ⟨by kernel_rfl, rfl⟩) (by assumption) ?_
    try simp only [Act.put, List.getElem_toArray, List.getElem_cons_succ, List.getElem_cons_zero, List.setIfInBounds_toArray, List.set_cons_zero, List.set_cons_succ]
    refine wpAnyH_take (i := 33) (v := undef) rfl (by kernel_rfl) (by kernel_rfl) (by kernel_rfl) (fun _ _ _ h => h) (Or.inr ⟨by kernel_rfl, rfl⟩) (by assumption) ?_
    try simp only [Act.put, List.getElem_toArray, List.getElem_cons_succ, List.getElem_cons_zero, List.setIfInBounds_toArray, List.set_cons_zero, List.set_cons_succ]
    refine wpAnyH_take (i := 34) (v := undef) rfl (by kernel_rfl) (by kernel_rfl) (by kernel_rfl) (fun _ _ _ h => h) (Or.inr ⟨by kernel_rfl, rfl⟩) (by assumption) ?_
    try simp only [Act.put, List.getElem_toArray, List.getElem_cons_succ, List.getElem_cons_zero, List.setIfInBounds_toArray, List.set_cons_zero, List.set_cons_succ]
    refine wpAnyH_take (i := 35) (v := ?_) rfl (by kernel_rfl) (by kernel_rfl) (by kernel_rfl) (fun _ _ _ h => h) (Or.inl ⟨by kernel_rfl, ?_⟩) (by assumption) ?_
    rotate_left 1
    · intro w hSw
      try dsimp only at hSw
      go_simp
      try with_reducible rfl
    try simp only [Act.put, List.getElem_toArray, List.getElem_cons_succ, List.getElem_cons_zero, List.setIfInBounds_toArray, List.set_cons_zero, List.set_cons_succ]
    refine wpAnyH_done (by kernel_rfl) ?_ _
    go_wp2
    go_ret
    exact ⟨rfl, bt HB_0.out ((Below.refl _ W0).drew)⟩
  have h0 := Decidable.not_not.1 h0
  have i0 : ((p.c.length : Int) != (rows.length : Int)) = false := by simp; omega
  have E0 := Lib.hid h0
  by_cases h1 : ¬ p.h.length = 1
  · have i1 : ((p.h.length : Int) != (1 : Int)) = true := by simp; omega
    obtain rfl : r = false := HR.out.symm.trans (by simp only [svV]; simp [h1])
    clear h1
    refine wp_region_held_drew (S := (fun w' => (w'.cell? ⟨w.heap.size, 0, none⟩ = some (.int .i64 P) ∧ w'.cell? ⟨w.heap.size, 1, none⟩ = some (.int .i64 Q) ∧ w'.cell? ⟨w.heap.size, 2, none⟩ = some (.int .i64 G)) ∧ (w'.cell? ⟨w.heap.size + 1, 0, none⟩ = some (.slice a1 p.c.length c1) ∧ w'.cell? ⟨w.heap.size + 1, 1, none⟩ = some (.slice a2 p.h.length c2) ∧ w'.cell? ⟨w.heap.size + 1, 2, none⟩ = some (.slice a3 p.r.length c3)) ∧ w'.cell? ⟨b0, o0, none⟩ = some (.slice x0a z0.length x0c))) (by kernel_rfl) (by first | exact HK.out _ (Below.refl _ W0).drew | (dsimp only; exact HK.out _ (Below.refl _ W0).drew)) (fun hHeld => ?_)
    refine wpAnyH_take (i := 0) (v := ?_) rfl (by kernel_rfl) (by kernel_rfl) (by kernel_rfl) (fun _ _ _ h => h) (Or.inl ⟨by kernel_rfl, ?_⟩) (by assumption) ?_
    rotate_left 1
    · intro w hSw
      try dsimp only at hSw
      go_simp
      try with_reducible rfl
    try simp only [Act.put, List.getElem_toArray, List.getElem_cons_succ, List.getElem_cons_zero, List.setIfInBounds_toArray, List.set_cons_zero, List.set_cons_succ]
    refine wpAnyH_take (i := 1) (v := ?_) rfl (by kernel_rfl) (by kernel_rfl) (by kernel_rfl) (fun _ _ _ h => h) (Or.inl ⟨by kernel_rfl, ?_⟩) (by assumption) ?_
    rotate_left 1
    · intro w hSw
      try dsimp only at hSw
      go_simp
      try with_reducible rfl
    try simp only [Act.put, List.getElem_toArray, List.getElem_cons_succ, List.getElem_cons_zero, List.setIfInBounds_toArray, List.set_cons_zero, List.set_cons_succ]
    refine wpAnyH_take (i := 2) (v := ?_) rfl (by kernel_rfl) (by kernel_rfl) (by kernel_rfl) (fun _ _ _ h => h) (Or.inl ⟨by kernel_rfl, ?_⟩) (by assumption) ?_
    rotate_left 1
    · intro w hSw
      try dsimp only at hSw
      go_simp
      try with_reducible rfl
    try simp only [Act.put, List.getElem_toArray, List.getElem_cons_succ, List.getElem_cons_zero, List.setIfInBounds_toArray, List.set_cons_zero, List.set_cons_succ]
    refine wpAnyH_take (i := 3) (v := ?_) rfl (by kernel_rfl) (by kernel_rfl) (by kernel_rfl) (fun _ _ _ h => h) (Or.inl ⟨by kernel_rfl, ?_⟩) (by assumption) ?_
    rotate_left 1
    · intro w hSw
      try dsimp only at hSw
      go_simp
      try with_reducible rfl
    try simp only [Act.put, List.getElem_toArray, List.getElem_cons_succ, List.getElem_cons_zero, List.setIfInBounds_toArray, List.set_cons_zero, List.set_cons_succ]
    refine wpAnyH_take (i := 4) (v := ?_) rfl (by kernel_rfl) (by kernel_rfl) (by kernel_rfl) (fun _ _ _ h => h) (Or.inl ⟨by kernel_rfl, ?_⟩) (by assumption) ?_
    rotate_left 1
    · intro w hSw
      try dsimp only at hSw
      go_simp
      try with_reducible rfl
    try simp only [Act.put, List.getElem_toArray, List.getElem_cons_succ, List.getElem_cons_zero, List.setIfInBounds_toArray, List.set_cons_zero, List.set_cons_succ]
    refine wpAnyH_take (i := 5) (v := ?_) rfl (by kernel_rfl) (by kernel_rfl) (by kernel_rfl) (fun _ _ _ h => h) (Or.inl ⟨by kernel_rfl, ?_⟩) (by assumption) ?_
    rotate_left 1
    · intro w hSw
      try dsimp only at hSw
      go_simp
      try with_reducible rfl
    try simp only [Act.put, List.getElem_toArray, List.getElem_cons_succ, List.getElem_cons_zero, List.setIfInBounds_toArray, List.set_cons_zero, List.set_cons_succ]
    refine wpAnyH_take (i := 6) (v := ?_) rfl (by kernel_rfl) (by kernel_rfl) (by kernel_rfl) (fun _ _ _ h => h) (Or.inl ⟨by kernel_rfl, ?_⟩) (by assumption) ?_
    rotate_left 1
    · intro w hSw
      try dsimp only at hSw
      go_simp
      try with_reducible rfl
    try simp only [Act.put, List.getElem_toArray, List.getElem_cons_succ, List.getElem_cons_zero, List.setIfInBounds_toArray, List.set_cons_zero, List.set_cons_succ]
    refine wpAnyH_take (i := 7) (v := ?_) rfl (by kernel_rfl) (by kernel_rfl) (by kernel_rfl) (fun _ _ _ h => h) (Or.inl ⟨by kernel_rfl, ?_⟩) (by assumption) ?_
    rotate_left 1
    · intro w hSw
      try dsimp only at hSw
      go_simp
      try with_reducible rfl
    try simp only [Act.put, List.getElem_toArray, List.getElem_cons_succ, List.getElem_cons_zero, List.setIfInBounds_toArray, List.set_cons_zero, List.set_cons_succ]
    refine wpAnyH_take (i := 8) (v := ?_) rfl (by kernel_rfl) (by kernel_rfl) (by kernel_rfl) (fun _ _ _ h => h) (Or.inl ⟨by kernel_rfl, ?_⟩) (by assumption) ?_
    rotate_left 1
    · intro w hSw
      try dsimp only at hSw
      go_simp
      try with_reducible rfl
    try simp only [Act.put, List.getElem_toArray, List.getElem_cons_succ, List.getElem_cons_zero, List.setIfInBounds_toArray, List.set_cons_zero, List.set_cons_succ]
    refine wpAnyH_take (i := 9) (v := ?_) rfl (by kernel_rfl) (by kernel_rfl) (by kernel_rfl) (fun _ _ _ h => h) (Or.inl ⟨by kernel_rfl, ?_⟩) (by assumption) ?_
    rotate_left 1
    · intro w hSw
      try dsimp only at hSw
      go_simp
      try with_reducible rfl
    try simp only [Act.put, List.getElem_toArray, List.getElem_cons_succ, List.getElem_cons_zero, List.setIfInBounds_toArray, List.set_cons_zero, List.set_cons_succ]
    refine wpAnyH_take (i := 10) (v := ?_) rfl (by kernel_rfl) (by kernel_rfl) (by kernel_rfl) (fun _ _ _ h => h) (Or.inl ⟨by kernel_rfl, ?_⟩) (by assumption) ?_
    rotate_left 1
    · intro w hSw
      try dsimp only at hSw
      go_simp
      try with_reducible rfl
    try simp only [Act.put, List.getElem_toArray, List.getElem_cons_succ, List.getElem_cons_zero, List.setIfInBounds_toArray, List.set_cons_zero, List.set_cons_succ]
    refine wpAnyH_take (i := 11) (v := ?_) rfl (by kernel_rfl) (by kernel_rfl) (by kernel_rfl) (fun _ _ _ h => h) (Or.inl ⟨by kernel_rfl, ?_⟩) (by assumption) ?_
    rotate_left 1
    · intro w hSw
      try dsimp only at hSw
      go_simp
      try with_reducible rfl
    try simp only [Act.put, List.getElem_toArray, List.getElem_cons_succ, List.getElem_cons_zero, List.setIfInBounds_toArray, List.set_cons_zero, List.set_cons_succ]
    refine wpAnyH_take (i := 12) (v := ?_) rfl (by kernel_rfl) (by kernel_rfl) (by kernel_rfl) (fun _ _ _ h => h) (Or.inl ⟨by kernel_rfl, ?_⟩) (by assumption) ?_
    rotate_left 1
    · intro w hSw
      try dsimp only at hSw
      go_simp
      try with_reducible rfl
    try simp only [Act.put, List.getElem_toArray, List.getElem_cons_succ, List.getElem_cons_zero, List.setIfInBounds_toArray, List.set_cons_zero, List.set_cons_succ]
    refine wpAnyH_take (i := 13) (v := undef) rfl (by kernel_rfl) (by kernel_rfl) (by kernel_rfl) (fun _ _ _ h => h) (Or.inr ⟨by kernel_rfl, rfl⟩) (by assumption) ?_
    try simp only [Act.put, List.getElem_toArray, List.getElem_cons_succ, List.getElem_cons_zero, List.setIfInBounds_toArray, List.set_cons_zero, List.set_cons_succ]
    refine wpAnyH_take (i := 14) (v := undef) rfl (by kernel_rfl) (by kernel_rfl) (by kernel_rfl) (fun _ _ _ h => h) (Or.inr ⟨by kernel_rfl, rfl⟩) (by assumption) ?_
    try simp only [Act.put, List.getElem_toArray, List.getElem_cons_succ, List.getElem_cons_zero, List.setIfInBounds_toArray, List.set_cons_zero, List.set_cons_succ]
    refine wpAnyH_take (i := 15) (v := undef) rfl (by kernel_rfl) (by kernel_rfl) (by kernel_rfl) (fun _ _ _ h => h) (Or.inr ⟨by kernel_rfl, rfl⟩) (by assumption) ?_
    try simp only [Act.put, List.getElem_toArray, List.getElem_cons_succ, List.getElem_cons_zero, List.setIfInBounds_toArray, List.set_cons_zero, List.set_cons_succ]
    refine wpAnyH_take (i := 16) (v := undef) rfl (by kernel_rfl) (by kernel_rfl) (by kernel_rfl) (fun _ _ _ h => h) (Or.inr ⟨by kernel_rfl, rfl⟩) (by assumption) ?_
    try simp only [Act.put, List.getElem_toArray, List.getElem_cons_succ, List.getElem_cons_zero, List.setIfInBounds_toArray, List.set_cons_zero, List.set_cons_succ]
    refine wpAnyH_take (i := 17) (v := undef) rfl (by kernel_rfl) (by kernel_rfl) (by kernel_rfl) (fun _ _ _ h => h) (Or.inr ⟨by kernel_rfl, rfl⟩) (by assumption) ?_
    try simp only [Act.put, List.getElem_toArray, List.getElem_cons_succ, List.getElem_cons_zero, List.setIfInBounds_toArray, List.set_cons_zero, List.set_cons_succ]
    refine wpAnyH_take (i := 18) (v := undef) rfl (by kernel_rfl) (by kernel_rfl) (by kernel_rfl) (fun _ _ _ h => h) (Or.inr ⟨by kernel_rfl, rfl⟩) (by assumption) ?_
    try simp only [Act.put, List.getElem_toArray, List.getElem_cons_succ, List.getElem_cons_zero, List.setIfInBounds_toArray, List.set_cons_zero, List.set_cons_succ]
    refine wpAnyH_take (i := 19) (v := undef) rfl (by kernel_rfl) (by kernel_rfl) (by kernel_rfl) (fun _ _ _ h => h) (Or.inr ⟨by kernel_rfl, rfl⟩) (by assumption) ?_
    try simp only [Act.put, List.getElem_toArray, List.getElem_cons_succ, List.getElem_cons_zero, List.setIfInBounds_toArray, List.set_cons_zero, List.set_cons_succ]
    refine wpAnyH_take (i := 20) (v := undef) rfl (by kernel_rfl) (by kernel_rfl) (by kernel_rfl) (fun _ _ _ h => h) (Or.inr ⟨by kernel_rfl, rfl⟩) (by assumption) ?_
    try simp only [Act.put, List.getElem_toArray, List.getElem_cons_succ, List.getElem_cons_zero, List.setIfInBounds_toArray, List.set_cons_zero, List.set_cons_succ]
    refine wpAnyH_take (i := 21) (v := ?_) rfl (by kernel_rfl) (by kernel_rfl) (by kernel_rfl) (fun _ _ _ h => h) (Or.inl ⟨by kernel_rfl, ?_⟩) (by assumption) ?_
    rotate_left 1
    · intro w hSw
      try dsimp only at hSw
      go_simp
      try with_reducible rfl
    try simp only [Act.put, List.getElem_toArray, List.getElem_cons_succ, List.getElem_cons_zero, List.setIfInBounds_toArray, List.set_cons_zero, List.set_cons_succ]
    refine wpAnyH_take (i := 22) (v := ?_) rfl (by kernel_rfl) (by kernel_rfl) (by kernel_rfl) (fun _ _ _ h => h) (Or.inl ⟨by kernel_rfl, ?_⟩) (by assumption) ?_
    rotate_left 1
    · intro w hSw
      try dsimp only at hSw
      go_simp
      try with_reducible rfl
    try simp only [Act.put, List.getElem_toArray, List.getElem_cons_succ, List.getElem_cons_zero, List.setIfInBounds_toArray, List.set_cons_zero, List.set_cons_succ]
    refine wpAnyH_take (i := 23) (v := undef) rfl (by kernel_rfl) (by kernel_rfl) (by kernel_rfl) (fun _ _ _ h => h) (Or.inr ⟨by kernel_rfl, rfl⟩) (by assumption) ?_
    try simp only [Act.put, List.getElem_toArray, List.getElem_cons_succ, List.getElem_cons_zero, List.setIfInBounds_toArray, List.set_cons_zero, List.set_cons_succ]
    refine wpAnyH_take (i := 24) (v := undef) rfl (by kernel_rfl) (by kernel_rfl) (by kernel_rfl) (fun _ _ _ h => h) (Or.inr ⟨by kernel_rfl, rfl⟩) (by assumption) ?_
    try simp only [Act.put, List.getElem_toArray, List.getElem_cons_succ, List.getElem_cons_zero, List.setIfInBounds_toArray, List.set_cons_zero, List.set_cons_succ]
    refine wpAnyH_take (i := 25) (v := undef) rfl (by kernel_rfl) (by kernel_rfl) (by kernel_rfl) (fun _ _ _ h => h) (Or.inr ⟨by kernel_rfl, rfl⟩) (by assumption) ?_
    try simp only [Act.put, List.getElem_toArray, List.getElem_cons_succ, List.getElem_cons_zero, List.setIfInBounds_toArray, List.set_cons_zero, List.set_cons_succ]
    refine wpAnyH_take (i := 26) (v := undef) rfl (by kernel_rfl) (by kernel_rfl) (by kernel_rfl) (fun _ _ _ h => h) (Or.inr ⟨by kernel_rfl, rfl⟩) (by assumption) ?_
    try simp only [Act.put, List.getElem_toArray, List.getElem_cons_succ, List.getElem_cons_zero, List.setIfInBounds_toArray, List.set_cons_zero, List.set_cons_succ]
    refine wpAnyH_take (i := 27) (v := undef) rfl (by kernel_rfl) (by kernel_rfl) (by kernel_rfl) (fun _ _ _ h => h) (Or.inr ⟨by kernel_rfl, rfl⟩) (by assumption) ?_
    try simp only [Act.put, List.getElem_toArray, List.getElem_cons_succ, List.getElem_cons_zero, List.setIfInBounds_toArray, List.set_cons_zero, List.set_cons_succ]
    refine wpAnyH_take (i := 28) (v := ?_) rfl (by kernel_rfl) (by kernel_rfl) (by kernel_rfl) (fun _ _ _ h => h) (Or.inl ⟨by kernel_rfl, ?_⟩) (by assumption) ?_
    rotate_left 1
    · intro w hSw
      try dsimp only at hSw
      go_simp
      try with_reducible rfl
    try simp only [Act.put, List.getElem_toArray, List.getElem_cons_succ, List.getElem_cons_zero, List.setIfInBounds_toArray, List.set_cons_zero, List.set_cons_succ]
    refine wpAnyH_take (i := 29) (v := ?_) rfl (by kernel_rfl) (by kernel_rfl) (by kernel_rfl) (fun _ _ _ h => h) (Or.inl ⟨by kernel_rfl, ?_⟩) (by assumption) ?_
    rotate_left 1
    · intro w hSw
      try dsimp only at hSw
      go_simp
      try with_reducible rfl
    try simp only [Act.put, List.getElem_toArray, List.getElem_cons_succ, List.getElem_cons_zero, List.setIfInBounds_toArray, List.set_cons_zero, List.set_cons_succ]
    refine wpAnyH_take (i := 30) (v := undef) rfl (by kernel_rfl) (by kernel_rfl) (by kernel_rfl) (fun _ _ _ h => h) (Or.inr ⟨by kernel_rfl, rfl⟩) (by assumption) ?_
    try simp only [Act.put, List.getElem_toArray, List.getElem_cons_succ, List.getElem_cons_zero, List.setIfInBounds_toArray, List.set_cons_zero, List.set_cons_succ]
    refine wpAnyH_take (i := 31) (v := undef) rfl (by kernel_rfl) (by kernel_rfl) (by kernel_rfl) (fun _ _ _ h => h) (Or.inr ⟨by kernel_rfl, rfl⟩) (by assumption) ?_
    try simp only [Act.put, List.getElem_toArray, List.getElem_cons_succ, List.getElem_cons_zero, List.setIfInBounds_toArray, List.set_cons_zero, List.set_cons_succ]
    refine wpAnyH_take (i := 32) (v := undef) rfl (by kernel_rfl) (by kernel_rfl) (by kernel_rfl) (fun _ _ _ h => h) (Or.inr ⟨by kernel_rfl, rfl⟩) (by assumption) ?_
    try simp only [Act.put, List.getElem_toArray, List.getElem_cons_succ, List.getElem_cons_zero, List.setIfInBounds_toArray, List.set_cons_zero, List.set_cons_succ]
    refine wpAnyH_take (i := 33) (v := undef) rfl (by kernel_rfl) (by kernel_rfl) (by kernel_rfl) (fun _ _ _ h => h) (Or.inr ⟨by kernel_rfl, rfl⟩) (by assumption) ?_
    try simp only [Act.put, List.getElem_toArray, List.getElem_cons_succ, List.getElem_cons_zero, List.setIfInBounds_toArray, List.set_cons_zero, List.set_cons_succ]
    refine wpAnyH_take (i := 34) (v := undef) rfl (by kernel_rfl) (by kernel_rfl) (by kernel_rfl) (fun _ _ _ h => h) (Or.inr ⟨by kernel_rfl, rfl⟩) (by assumption) ?_
    try simp only [Act.put, List.getElem_toArray, List.getElem_cons_succ, List.getElem_cons_zero, List.setIfInBounds_toArray, List.set_cons_zero, List.set_cons_succ]
    refine wpAnyH_take (i := 35) (v := ?_) rfl (by kernel_rfl) (by kernel_rfl) (by kernel_rfl) (fun _ _ _ h => h) (Or.inl ⟨by kernel_rfl, ?_⟩) (by assumption) ?_
    rotate_left 1
    · intro w hSw
      try dsimp only at hSw
      go_simp
      try with_reducible rfl
    try simp only [Act.put, List.getElem_toArray, List.getElem_cons_succ, List.getElem_cons_zero, List.setIfInBounds_toArray, List.set_cons_zero, List.set_cons_succ]
    refine wpAnyH_done (by kernel_rfl) ?_ _
    go_wp2
    go_ret
    exact ⟨rfl, bt HB_0.out ((Below.refl _ W0).drew)⟩
  have h1 := Decidable.not_not.1 h1
  have i1 : ((p.h.length : Int) != (1 : Int)) = false := by simp; omega
  have E1 := Lib.hid h1
  by_cases h2 : ¬ p.r.length = z0.length
  · have i2 : ((p.r.length : Int) != (z0.length : Int)) = true := by simp; omega
    obtain rfl : r = false := HR.out.symm.trans (by simp only [svV]; simp [HW0.out, h2])
    clear h2
    refine wp_region_held_drew (S := (fun w' => (w'.cell? ⟨w.heap.size, 0, none⟩ = some (.int .i64 P) ∧ w'.cell? ⟨w.heap.size, 1, none⟩ = some (.int .i64 Q) ∧ w'.cell? ⟨w.heap.size, 2, none⟩ = some (.int .i64 G)) ∧ (w'.cell? ⟨w.heap.size + 1, 0, none⟩ = some (.slice a1 p.c.length c1) ∧ w'.cell? ⟨w.heap.size + 1, 1, none⟩ = some (.slice a2 p.h.length c2) ∧ w'.cell? ⟨w.heap.size + 1, 2, none⟩ = some (.slice a3 p.r.length c3)) ∧ w'.cell? ⟨b0, o0, none⟩ = some (.slice x0a z0.length x0c))) (by kernel_rfl) (by first | exact HK.out _ (Below.refl _ W0).drew | (dsimp only; exact HK.out _ (Below.refl _ W0).drew)) (fun hHeld => ?_)
    refine wpAnyH_take (i := 0) (v := ?_) rfl (by kernel_rfl) (by kernel_rfl) (by kernel_rfl) (fun _ _ _ h => h) (Or.inl ⟨by kernel_rfl, ?_⟩) (by assumption) ?_
    rotate_left 1
    · intro w hSw
      try dsimp only at hSw
      go_simp
      try with_reducible rfl
    try simp only [Act.put, List.getElem_toArray, List.getElem_cons_succ, List.getElem_cons_zero, List.setIfInBounds_toArray, List.set_cons_zero, List.set_cons_succ]
    refine wpAnyH_take (i := 1) (v := ?_) rfl (by kernel_rfl) (by kernel_rfl) (by kernel_rfl) (fun _ _ _ h => h) (Or.inl ⟨by kernel_rfl, ?_⟩) (by assumption) ?_
    rotate_left 1
    · intro w hSw
      try dsimp only at hSw
      go_simp
      try with_reducible rfl
    try simp only [Act.put, List.getElem_toArray, List.getElem_cons_succ, List.getElem_cons_zero, List.setIfInBounds_toArray, List.set_cons_zero, List.set_cons_succ]
    refine wpAnyH_take (i := 2) (v := ?_) rfl (by kernel_rfl) (by kernel_rfl) (by kernel_rfl) (fun _ _ _ h => h) (Or.inl ⟨by kernel_rfl, ?_⟩) (by assumption) ?_
    rotate_left 1
    · intro w hSw
      try dsimp only at hSw
      go_simp
      try with_reducible rfl
    try simp only [Act.put, List.getElem_toArray, List.getElem_cons_succ, List.getElem_cons_zero, List.setIfInBounds_toArray, List.set_cons_zero, List.set_cons_succ]
    refine wpAnyH_take (i := 3) (v := ?_) rfl (by kernel_rfl) (by kernel_rfl) (by kernel_rfl) (fun _ _ _ h => h) (Or.inl ⟨by kernel_rfl, ?_⟩) (by assumption) ?_
    rotate_left 1
    · intro w hSw
      try dsimp only at hSw
      go_simp
      try with_reducible rfl
    try simp only [Act.put, List.getElem_toArray, List.getElem_cons_succ, List.getElem_cons_zero, List.setIfInBounds_toArray, List.set_cons_zero, List.set_cons_succ]
    refine wpAnyH_take (i := 4) (v := ?_) rfl (by kernel_rfl) (by kernel_rfl) (by kernel_rfl) (fun _ _ _ h => h) (Or.inl ⟨by kernel_rfl, ?_⟩) (by assumption) ?_
    rotate_left 1
    · intro w hSw
      try dsimp only at hSw
      go_simp
      try with_reducible rfl
    try simp only [Act.put, List.getElem_toArray, List.getElem_cons_succ, List.getElem_cons_zero, List.setIfInBounds_toArray, List.set_cons_zero, List.set_cons_succ]
    refine wpAnyH_take (i := 5) (v := ?_) rfl (by kernel_rfl) (by kernel_rfl) (by kernel_rfl) (fun _ _ _ h => h) (Or.inl ⟨by kernel_rfl, ?_⟩) (by assumption) ?_
    rotate_left 1
    · intro w hSw
      try dsimp only at hSw
      go_simp
      try with_reducible rfl
    try simp only [Act.put, List.getElem_toArray, List.getElem_cons_succ, List.getElem_cons_zero, List.setIfInBounds_toArray, List.set_cons_zero, List.set_cons_succ]
    refine wpAnyH_take (i := 6) (v := ?_) rfl (by kernel_rfl) (by kernel_rfl) (by kernel_rfl) (fun _ _ _ h => h) (Or.inl ⟨by kernel_rfl, ?_⟩) (by assumption) ?_
    rotate_left 1
    · intro w hSw
      try dsimp only at hSw
      go_simp
      try with_reducible rfl
    try simp only [Act.put, List.getElem_toArray, List.getElem_cons_succ, List.getElem_cons_zero, List.setIfInBounds_toArray, List.set_cons_zero, List.set_cons_succ]
    refine wpAnyH_take (i := 7) (v := ?_) rfl (by kernel_rfl) (by kernel_rfl) (by kernel_rfl) (fun _ _ _ h => h) (Or.inl ⟨by kernel_rfl, ?_⟩) (by assumption) ?_
    rotate_left 1
    · intro w hSw
      try dsimp only at hSw
      go_simp
      try with_reducible rfl
    try simp only [Act.put, List.getElem_toArray, List.getElem_cons_succ, List.getElem_cons_zero, List.setIfInBounds_toArray, List.set_cons_zero, List.set_cons_succ]
    refine wpAnyH_take (i := 8) (v := ?_) rfl (by kernel_rfl) (by kernel_rfl) (by kernel_rfl) (fun _ _ _ h => h) (Or.inl ⟨by kernel_rfl, ?_⟩) (by assumption) ?_
    rotate_left 1
    · intro w hSw
      try dsimp only at hSw
      go_simp
      try with_reducible rfl
    try simp only [Act.put, List.getElem_toArray, List.getElem_cons_succ, List.getElem_cons_zero, List.setIfInBounds_toArray, List.set_cons_zero, List.set_cons_succ]
    refine wpAnyH_take (i := 9) (v := ?_) rfl (by kernel_rfl) (by kernel_rfl) (by kernel_rfl) (fun _ _ _ h => h) (Or.inl ⟨by kernel_rfl, ?_⟩) (by assumption) ?_
    rotate_left 1
    · intro w hSw
      try dsimp only at hSw
      go_simp
      try with_reducible rfl
    try simp only [Act.put, List.getElem_toArray, List.getElem_cons_succ, List.getElem_cons_zero, List.setIfInBounds_toArray, List.set_cons_zero, List.set_cons_succ]
    refine wpAnyH_take (i := 10) (v := ?_) rfl (by kernel_rfl) (by kernel_rfl) (by kernel_rfl) (fun _ _ _ h => h) (Or.inl ⟨by kernel_rfl, ?_⟩) (by assumption) ?_
    rotate_left 1
    · intro w hSw
      try dsimp only at hSw
      go_simp
      try with_reducible rfl
    try simp only [Act.put, List.getElem_toArray, List.getElem_cons_succ, List.getElem_cons_zero, List.setIfInBounds_toArray, List.set_cons_zero, List.set_cons_succ]
    refine wpAnyH_take (i := 11) (v := ?_) rfl (by kernel_rfl) (by kernel_rfl) (by kernel_rfl) (fun _ _ _ h => h) (Or.inl ⟨by kernel_rfl, ?_⟩) (by assumption) ?_
    rotate_left 1
    · intro w hSw
      try dsimp only at hSw
      go_simp
      try with_reducible rfl
    try simp only [Act.put, List.getElem_toArray, List.getElem_cons_succ, List.getElem_cons_zero, List.setIfInBounds_toArray, List.set_cons_zero, List.set_cons_succ]
    refine wpAnyH_take (i := 12) (v := ?_) rfl (by kernel_rfl) (by kernel_rfl) (by kernel_rfl) (fun _ _ _ h => h) (Or.inl ⟨by kernel_rfl, ?_⟩) (by assumption) ?_
    rotate_left 1
    · intro w hSw
      try dsimp only at hSw
      go_simp
      try with_reducible rfl
    try simp only [Act.put, List.getElem_toArray, List.getElem_cons_succ, List.getElem_cons_zero, List.setIfInBounds_toArray, List.set_cons_zero, List.set_cons_succ]
    refine wpAnyH_take (i := 13) (v := ?_) rfl (by kernel_rfl) (by kernel_rfl) (by kernel_rfl) (fun _ _ _ h => h) (Or.inl ⟨by kernel_rfl, ?_⟩) (by assumption) ?_
    rotate_left 1
    · intro w hSw
      try dsimp only at hSw
      go_simp
      try with_reducible rfl
    try simp only [Act.put, List.getElem_toArray, List.getElem_cons_succ, List.getElem_cons_zero, List.setIfInBounds_toArray, List.set_cons_zero, List.set_cons_succ]
    refine wpAnyH_take (i := 14) (v := ?_) rfl (by kernel_rfl) (by kernel_rfl) (by kernel_rfl) (fun _ _ _ h => h) (Or.inl ⟨by kernel_rfl, ?_⟩) (by assumption) ?_
    rotate_left 1
    · intro w hSw
      try dsimp only at hSw
      go_simp
      try with_reducible rfl
    try simp only [Act.put, List.getElem_toArray, List.getElem_cons_succ, List.getElem_cons_zero, List.setIfInBounds_toArray, List.set_cons_zero, List.set_cons_succ]
    refine wpAnyH_take (i := 15) (v := ?_) rfl (by kernel_rfl) (by kernel_rfl) (by kernel_rfl) (fun _ _ _ h => h) (Or.inl ⟨by kernel_rfl, ?_⟩) (by assumption) ?_
    rotate_left 1
    · intro w hSw
      try dsimp only at hSw
      go_simp
      try with_reducible rfl
    try simp only [Act.put, List.getElem_toArray, List.getElem_cons_succ, List.getElem_cons_zero, List.setIfInBounds_toArray, List.set_cons_zero, List.set_cons_succ]
    refine wpAnyH_take (i := 16) (v := ?_) rfl (by kernel_rfl) (by kernel_rfl) (by kernel_rfl) (fun _ _ _ h => h) (Or.inl ⟨by kernel_rfl, ?_⟩) (by assumption) ?_
    rotate_left 1
    · intro w hSw
      try dsimp only at hSw
      go_simp
      try with_reducible rfl
    try simp only [Act.put, List.getElem_toArray, List.getElem_cons_succ, List.getElem_cons_zero, List.setIfInBounds_toArray, List.set_cons_zero, List.set_cons_succ]
    refine wpAnyH_take (i := 17) (v := ?_) rfl (by kernel_rfl) (by kernel_rfl) (by kernel_rfl) (fun _ _ _ h => h) (Or.inl ⟨by kernel_rfl, ?_⟩) (by assumption) ?_
    rotate_left 1
    · intro w hSw
      try dsimp only at hSw
      go_simp
      try with_reducible rfl
    try simp only [Act.put, List.getElem_toArray, List.getElem_cons_succ, List.getElem_cons_zero, List.setIfInBounds_toArray, List.set_cons_zero, List.set_cons_succ]
    refine wpAnyH_take (i := 18) (v := ?_) rfl (by kernel_rfl) (by kernel_rfl) (by kernel_rfl) (fun _ _ _ h => h) (Or.inl ⟨by kernel_rfl, ?_⟩) (by assumption) ?_
    rotate_left 1
    · intro w hSw
      try dsimp only at hSw
      go_simp
      try with_reducible rfl
    try simp only [Act.put, List.getElem_toArray, List.getElem_cons_succ, List.getElem_cons_zero, List.setIfInBounds_toArray, List.set_cons_zero, List.set_cons_succ]
    refine wpAnyH_take (i := 19) (v := ?_) rfl (by kernel_rfl) (by kernel_rfl) (by kernel_rfl) (fun _ _ _ h => h) (Or.inl ⟨by kernel_rfl, ?_⟩) (by assumption) ?_
    rotate_left 1
    · intro w hSw
      try dsimp only at hSw
      go_simp
      try with_reducible rfl
    try simp only [Act.put, List.getElem_toArray, List.getElem_cons_succ, List.getElem_cons_zero, List.setIfInBounds_toArray, List.set_cons_zero, List.set_cons_succ]
    refine wpAnyH_take (i := 20) (v := ?_) rfl (by kernel_rfl) (by kernel_rfl) (by kernel_rfl) (fun _ _ _ h => h) (Or.inl ⟨by kernel_rfl, ?_⟩) (by assumption) ?_
    rotate_left 1
    · intro w hSw
      try dsimp only at hSw
      go_simp
      try with_reducible rfl
    try simp only [Act.put, List.getElem_toArray, List.getElem_cons_succ, List.getElem_cons_zero, List.setIfInBounds_toArray, List.set_cons_zero, List.set_cons_succ]
    refine wpAnyH_take (i := 21) (v := ?_) rfl (by kernel_rfl) (by kernel_rfl) (by kernel_rfl) (fun _ _ _ h => h) (Or.inl ⟨by kernel_rfl, ?_⟩) (by assumption) ?_
    rotate_left 1
    · intro w hSw
      try dsimp only at hSw
      go_simp
      try with_reducible rfl
    try simp only [Act.put, List.getElem_toArray, List.getElem_cons_succ, List.getElem_cons_zero, List.setIfInBounds_toArray, List.set_cons_zero, List.set_cons_succ]
    refine wpAnyH_take (i := 22) (v := ?_) rfl (by kernel_rfl) (by kernel_rfl) (by kernel_rfl) (fun _ _ _ h => h) (Or.inl ⟨by kernel_rfl, ?_⟩) (by assumption) ?_
    rotate_left 1
    · intro w hSw
      try dsimp only at hSw
      go_simp
      try with_reducible rfl
    try simp only [Act.put, List.getElem_toArray, List.getElem_cons_succ, List.getElem_cons_zero, List.setIfInBounds_toArray, List.set_cons_zero, List.set_cons_succ]
    refine wpAnyH_take (i := 23) (v := undef) rfl (by kernel_rfl) (by kernel_rfl) (by kernel_rfl) (fun _ _ _ h => h) (Or.inr ⟨by kernel_rfl, rfl⟩) (by assumption) ?_
    try simp only [Act.put, List.getElem_toArray, List.getElem_cons_succ, List.getElem_cons_zero, List.setIfInBounds_toArray, List.set_cons_zero, List.set_cons_succ]
    refine wpAnyH_take (i := 24) (v := undef) rfl (by kernel_rfl) (by kernel_rfl) (by kernel_rfl) (fun _ _ _ h => h) (Or.inr ⟨by kernel_rfl, rfl⟩) (by assumption) ?_
    try simp only [Act.put, List.getElem_toArray, List.getElem_cons_succ, List.getElem_cons_zero, List.setIfInBounds_toArray, List.set_cons_zero, List.set_cons_succ]
    refine wpAnyH_take (i := 25) (v := undef) rfl (by kernel_rfl) (by kernel_rfl) (by kernel_rfl) (fun _ _ _ h => h) (Or.inr ⟨by kernel_rfl, rfl⟩) (by assumption) ?_
    try simp only [Act.put, List.getElem_toArray, List.getElem_cons_succ, List.getElem_cons_zero, List.setIfInBounds_toArray, List.set_cons_zero, List.set_cons_succ]
    refine wpAnyH_take (i := 26) (v := undef) rfl (by kernel_rfl) (by kernel_rfl) (by kernel_rfl) (fun _ _ _ h => h) (Or.inr ⟨by kernel_rfl, rfl⟩) (by assumption) ?_
    try simp only [Act.put, List.getElem_toArray, List.getElem_cons_succ, List.getElem_cons_zero, List.setIfInBounds_toArray, List.set_cons_zero, List.set_cons_succ]
    refine wpAnyH_take (i := 27) (v := undef) rfl (by kernel_rfl) (by kernel_rfl) (by kernel_rfl) (fun _ _ _ h => h) (Or.inr ⟨by kernel_rfl, rfl⟩) (by assumption) ?_
    try simp only [Act.put, List.getElem_toArray, List.getElem_cons_succ, List.getElem_cons_zero, List.setIfInBounds_toArray, List.set_cons_zero, List.set_cons_succ]
    refine wpAnyH_take (i := 28) (v := ?_) rfl (by kernel_rfl) (by kernel_rfl) (by kernel_rfl) (fun _ _ _ h => h) (Or.inl ⟨by kernel_rfl, ?_⟩) (by assumption) ?_
    rotate_left 1
    · intro w hSw
      try dsimp only at hSw
      go_simp
      try with_reducible rfl
    try simp only [Act.put, List.getElem_toArray, List.getElem_cons_succ, List.getElem_cons_zero, List.setIfInBounds_toArray, List.set_cons_zero, List.set_cons_succ]
    refine wpAnyH_take (i := 29) (v := ?_) rfl (by kernel_rfl) (by kernel_rfl) (by kernel_rfl) (fun _ _ _ h => h) (Or.inl ⟨by kernel_rfl, ?_⟩) (by assumption) ?_
    rotate_left 1
    · intro w hSw
      try dsimp only at hSw
      go_simp
      try with_reducible rfl
    try simp only [Act.put, List.getElem_toArray, List.getElem_cons_succ, List.getElem_cons_zero, List.setIfInBounds_toArray, List.set_cons_zero, List.set_cons_succ]
    refine wpAnyH_take (i := 30) (v := undef) rfl (by kernel_rfl) (by kernel_rfl) (by kernel_rfl) (fun _ _ _ h => h) (Or.inr ⟨by kernel_rfl, rfl⟩) (by assumption) ?_
    try simp only [Act.put, List.getElem_toArray, List.getElem_cons_succ, List.getElem_cons_zero, List.setIfInBounds_toArray, List.set_cons_zero, List.set_cons_succ]
    refine wpAnyH_take (i := 31) (v := undef) rfl (by kernel_rfl) (by kernel_rfl) (by kernel_rfl) (fun _ _ _ h => h) (Or.inr ⟨by kernel_rfl, rfl⟩) (by assumption) ?_
    try simp only [Act.put, List.getElem_toArray, List.getElem_cons_succ, List.getElem_cons_zero, List.setIfInBounds_toArray, List.set_cons_zero, List.set_cons_succ]
    refine wpAnyH_take (i := 32) (v := undef) rfl (by kernel_rfl) (by kernel_rfl) (by kernel_rfl) (fun _ _ _ h => h) (Or.inr ⟨by kernel_rfl, rfl⟩) (by assumption) ?_
    try simp only [Act.put, List.getElem_toArray, List.getElem_cons_succ, List.getElem_cons_zero, List.setIfInBounds_toArray, List.set_cons_zero, List.set_cons_succ]
    refine wpAnyH_take (i := 33) (v := undef) rfl (by kernel_rfl) (by kernel_rfl) (by kernel_rfl) (fun _ _ _ h => h) (Or.inr ⟨by kernel_rfl, rfl⟩) (by assumption) ?_
    try simp only [Act.put, List.getElem_toArray, List.getElem_cons_succ, List.getElem_cons_zero, List.setIfInBounds_toArray, List.set_cons_zero, List.set_cons_succ]
    refine wpAnyH_take (i := 34) (v := undef) rfl (by kernel_rfl) (by kernel_rfl) (by kernel_rfl) (fun _ _ _ h => h) (Or.inr ⟨by kernel_rfl, rfl⟩) (by assumption) ?_
    try simp only [Act.put, List.getElem_toArray, List.getElem_cons_succ, List.getElem_cons_zero, List.setIfInBounds_toArray, List.set_cons_zero, List.set_cons_succ]
    refine wpAnyH_take (i := 35) (v := ?_) rfl (by kernel_rfl) (by kernel_rfl) (by kernel_rfl) (fun _ _ _ h => h) (Or.inl ⟨by kernel_rfl, ?_⟩) (by assumption) ?_
    rotate_left 1
    · intro w hSw
      try dsimp only at hSw
      go_simp
      try with_reducible rfl
    try simp only [Act.put, List.getElem_toArray, List.getElem_cons_succ, List.getElem_cons_zero, List.setIfInBounds_toArray, List.set_cons_zero, List.set_cons_succ]
    refine wpAnyH_done (by kernel_rfl) ?_ _
    go_wp2
    go_ret
    exact ⟨rfl, bt HB_0.out ((Below.refl _ W0).drew)⟩
  have h2 := Decidable.not_not.1 h2
  have i2 : ((p.r.length : Int) != (z0.length : Int)) = false := by simp; omega
  have E2 := Lib.hid h2
  cases h3 : allEl P Q p.c
  · have KD := Lib.hid h3
    obtain rfl : r = false := HR.out.symm.trans (by simp only [svV]; simp [h3])
    clear h3 h0 h1 h2
    refine wp_region_held_drew (S := (fun w' => (w'.cell? ⟨w.heap.size, 0, none⟩ = some (.int .i64 P) ∧ w'.cell? ⟨w.heap.size, 1, none⟩ = some (.int .i64 Q) ∧ w'.cell? ⟨w.heap.size, 2, none⟩ = some (.int .i64 G)) ∧ (w'.cell? ⟨w.heap.size + 1, 0, none⟩ = some (.slice a1 p.c.length c1) ∧ w'.cell? ⟨w.heap.size + 1, 1, none⟩ = some (.slice a2 p.h.length c2) ∧ w'.cell? ⟨w.heap.size + 1, 2, none⟩ = some (.slice a3 p.r.length c3)) ∧ w'.cell? ⟨b0, o0, none⟩ = some (.slice x0a z0.length x0c))) (by kernel_rfl) (by first | exact HK.out _ (Below.refl _ W0).drew | (dsimp only; exact HK.out _ (Below.refl _ W0).drew)) (fun hHeld => ?_)
    refine wpAnyH_take (i := 0) (v := ?_) rfl (by kernel_rfl) (by kernel_rfl) (by kernel_rfl) (fun _ _ _ h => h) (Or.inl ⟨by kernel_rfl, ?_⟩) (by assumption) ?_
    rotate_left 1
    · intro w hSw
      try dsimp only at hSw
      go_simp
      try with_reducible rfl
    try simp only [Act.put, List.getElem_toArray, List.getElem_cons_succ, List.getElem_cons_zero, List.setIfInBounds_toArray, List.set_cons_zero, List.set_cons_succ]
    refine wpAnyH_take (i := 1) (v := ?_) rfl (by kernel_rfl) (by kernel_rfl) (by kernel_rfl) (fun _ _ _ h => h) (Or.inl ⟨by kernel_rfl, ?_⟩) (by assumption) ?_
    rotate_left 1
    · intro w hSw
      try dsimp only at hSw
      go_simp
      try with_reducible rfl
    try simp only [Act.put, List.getElem_toArray, List.getElem_cons_succ, List.getElem_cons_zero, List.setIfInBounds_toArray, List.set_cons_zero, List.set_cons_succ]
    refine wpAnyH_take (i := 2) (v := ?_) rfl (by kernel_rfl) (by kernel_rfl) (by kernel_rfl) (fun _ _ _ h => h) (Or.inl ⟨by kernel_rfl, ?_⟩) (by assumption) ?_
    rotate_left 1
    · intro w hSw
      try dsimp only at hSw
      go_simp
      try with_reducible rfl
    try simp only [Act.put, List.getElem_toArray, List.getElem_cons_succ, List.getElem_cons_zero, List.setIfInBounds_toArray, List.set_cons_zero, List.set_cons_succ]
    refine wpAnyH_take (i := 3) (v := ?_) rfl (by kernel_rfl) (by kernel_rfl) (by kernel_rfl) (fun _ _ _ h => h) (Or.inl ⟨by kernel_rfl, ?_⟩) (by assumption) ?_
    rotate_left 1
    · intro w hSw
      try dsimp only at hSw
      go_simp
      try with_reducible rfl
    try simp only [Act.put, List.getElem_toArray, List.getElem_cons_succ, List.getElem_cons_zero, List.setIfInBounds_toArray, List.set_cons_zero, List.set_cons_succ]
    refine wpAnyH_take (i := 4) (v := ?_) rfl (by kernel_rfl) (by kernel_rfl) (by kernel_rfl) (fun _ _ _ h => h) (Or.inl ⟨by kernel_rfl, ?_⟩) (by assumption) ?_
    rotate_left 1
    · intro w hSw
      try dsimp only at hSw
      go_simp
      try with_reducible rfl
    try simp only [Act.put, List.getElem_toArray, List.getElem_cons_succ, List.getElem_cons_zero, List.setIfInBounds_toArray, List.set_cons_zero, List.set_cons_succ]
    refine wpAnyH_take (i := 5) (v := ?_) rfl (by kernel_rfl) (by kernel_rfl) (by kernel_rfl) (fun _ _ _ h => h) (Or.inl ⟨by kernel_rfl, ?_⟩) (by assumption) ?_
    rotate_left 1
    · intro w hSw
      try dsimp only at hSw
      go_simp
      try with_reducible rfl
    try simp only [Act.put, List.getElem_toArray, List.getElem_cons_succ, List.getElem_cons_zero, List.setIfInBounds_toArray, List.set_cons_zero, List.set_cons_succ]
    refine wpAnyH_take (i := 6) (v := ?_) rfl (by kernel_rfl) (by kernel_rfl) (by kernel_rfl) (fun _ _ _ h => h) (Or.inl ⟨by kernel_rfl, ?_⟩) (by assumption) ?_
    rotate_left 1
    · intro w hSw
      try dsimp only at hSw
      go_simp
      try with_reducible rfl
    try simp only [Act.put, List.getElem_toArray, List.getElem_cons_succ, List.getElem_cons_zero, List.setIfInBounds_toArray, List.set_cons_zero, List.set_cons_succ]
    refine wpAnyH_take (i := 7) (v := ?_) rfl (by kernel_rfl) (by kernel_rfl) (by kernel_rfl) (fun _ _ _ h => h) (Or.inl ⟨by kernel_rfl, ?_⟩) (by assumption) ?_
    rotate_left 1
    · intro w hSw
      try dsimp only at hSw
      go_simp
      try with_reducible rfl
    try simp only [Act.put, List.getElem_toArray, List.getElem_cons_succ, List.getElem_cons_zero, List.setIfInBounds_toArray, List.set_cons_zero, List.set_cons_succ]
    refine wpAnyH_take (i := 8) (v := ?_) rfl (by kernel_rfl) (by kernel_rfl) (by kernel_rfl) (fun _ _ _ h => h) (Or.inl ⟨by kernel_rfl, ?_⟩) (by assumption) ?_
    rotate_left 1
    · intro w hSw
      try dsimp only at hSw
      go_simp
      try with_reducible rfl
    try simp only [Act.put, List.getElem_toArray, List.getElem_cons_succ, List.getElem_cons_zero, List.setIfInBounds_toArray, List.set_cons_zero, List.set_cons_succ]
    refine wpAnyH_take (i := 9) (v := ?_) rfl (by kernel_rfl) (by kernel_rfl) (by kernel_rfl) (fun _ _ _ h => h) (Or.inl ⟨by kernel_rfl, ?_⟩) (by assumption) ?_
    rotate_left 1
    · intro w hSw
      try dsimp only at hSw
      go_simp
      try with_reducible rfl
    try simp only [Act.put, List.getElem_toArray, List.getElem_cons_succ, List.getElem_cons_zero, List.setIfInBounds_toArray, List.set_cons_zero, List.set_cons_succ]
    refine wpAnyH_take (i := 10) (v := ?_) rfl (by kernel_rfl) (by kernel_rfl) (by kernel_rfl) (fun _ _ _ h => h) (Or.inl ⟨by kernel_rfl, ?_⟩) (by assumption) ?_
    rotate_left 1
    · intro w hSw
      try dsimp only at hSw
      go_simp
      try with_reducible rfl
    try simp only [Act.put, List.getElem_toArray, List.getElem_cons_succ, List.getElem_cons_zero, List.setIfInBounds_toArray, List.set_cons_zero, List.set_cons_succ]
    refine wpAnyH_take (i := 11) (v := ?_) rfl (by kernel_rfl) (by kernel_rfl) (by kernel_rfl) (fun _ _ _ h => h) (Or.inl ⟨by kernel_rfl, ?_⟩) (by assumption) ?_
    rotate_left 1
    · intro w hSw
      try dsimp only at hSw
      go_simp
      try with_reducible rfl
    try simp only [Act.put, List.getElem_toArray, List.getElem_cons_succ, List.getElem_cons_zero, List.setIfInBounds_toArray, List.set_cons_zero, List.set_cons_succ]
    refine wpAnyH_take (i := 12) (v := ?_) rfl (by kernel_rfl) (by kernel_rfl) (by kernel_rfl) (fun _ _ _ h => h) (Or.inl ⟨by kernel_rfl, ?_⟩) (by assumption) ?_
    rotate_left 1
    · intro w hSw
      try dsimp only at hSw
      go_simp
      try with_reducible rfl
    try simp only [Act.put, List.getElem_toArray, List.getElem_cons_succ, List.getElem_cons_zero, List.setIfInBounds_toArray, List.set_cons_zero, List.set_cons_succ]
    refine wpAnyH_take (i := 13) (v := ?_) rfl (by kernel_rfl) (by kernel_rfl) (by kernel_rfl) (fun _ _ _ h => h) (Or.inl ⟨by kernel_rfl, ?_⟩) (by assumption) ?_
    rotate_left 1
    · intro w hSw
      try dsimp only at hSw
      go_simp
      try with_reducible rfl
    try simp only [Act.put, List.getElem_toArray, List.getElem_cons_succ, List.getElem_cons_zero, List.setIfInBounds_toArray, List.set_cons_zero, List.set_cons_succ]
    refine wpAnyH_take (i := 14) (v := ?_) rfl (by kernel_rfl) (by kernel_rfl) (by kernel_rfl) (fun _ _ _ h => h) (Or.inl ⟨by kernel_rfl, ?_⟩) (by assumption) ?_
    rotate_left 1
    · intro w hSw
      try dsimp only at hSw
      go_simp
      try with_reducible rfl
    try simp only [Act.put, List.getElem_toArray, List.getElem_cons_succ, List.getElem_cons_zero, List.setIfInBounds_toArray, List.set_cons_zero, List.set_cons_succ]
    refine wpAnyH_take (i := 15) (v := ?_) rfl (by kernel_rfl) (by kernel_rfl) (by kernel_rfl) (fun _ _ _ h => h) (Or.inl ⟨by kernel_rfl, ?_⟩) (by assumption) ?_
    rotate_left 1
    · intro w hSw
      try dsimp only at hSw
      go_simp
      try with_reducible rfl
    try simp only [Act.put, List.getElem_toArray, List.getElem_cons_succ, List.getElem_cons_zero, List.setIfInBounds_toArray, List.set_cons_zero, List.set_cons_succ]
    refine wpAnyH_take (i := 16) (v := ?_) rfl (by kernel_rfl) (by kernel_rfl) (by kernel_rfl) (fun _ _ _ h => h) (Or.inl ⟨by kernel_rfl, ?_⟩) (by assumption) ?_
    rotate_left 1
    · intro w hSw
      try dsimp only at hSw
      go_simp
      try with_reducible rfl
    try simp only [Act.put, List.getElem_toArray, List.getElem_cons_succ, List.getElem_cons_zero, List.setIfInBounds_toArray, List.set_cons_zero, List.set_cons_succ]
    refine wpAnyH_take (i := 17) (v := ?_) rfl (by kernel_rfl) (by kernel_rfl) (by kernel_rfl) (fun _ _ _ h => h) (Or.inl ⟨by kernel_rfl, ?_⟩) (by assumption) ?_
    rotate_left 1
    · intro w hSw
      try dsimp only at hSw
      go_simp
      try with_reducible rfl
    try simp only [Act.put, List.getElem_toArray, List.getElem_cons_succ, List.getElem_cons_zero, List.setIfInBounds_toArray, List.set_cons_zero, List.set_cons_succ]
    refine wpAnyH_take (i := 18) (v := ?_) rfl (by kernel_rfl) (by kernel_rfl) (by kernel_rfl) (fun _ _ _ h => h) (Or.inl ⟨by kernel_rfl, ?_⟩) (by assumption) ?_
    rotate_left 1
    · intro w hSw
      try dsimp only at hSw
      go_simp
      try with_reducible rfl
    try simp only [Act.put, List.getElem_toArray, List.getElem_cons_succ, List.getElem_cons_zero, List.setIfInBounds_toArray, List.set_cons_zero, List.set_cons_succ]
    refine wpAnyH_take (i := 19) (v := ?_) rfl (by kernel_rfl) (by kernel_rfl) (by kernel_rfl) (fun _ _ _ h => h) (Or.inl ⟨by kernel_rfl, ?_⟩) (by assumption) ?_
    rotate_left 1
    · intro w hSw
      try dsimp only at hSw
      go_simp
      try with_reducible rfl
    try simp only [Act.put, List.getElem_toArray, List.getElem_cons_succ, List.getElem_cons_zero, List.setIfInBounds_toArray, List.set_cons_zero, List.set_cons_succ]
    refine wpAnyH_take (i := 20) (v := ?_) rfl (by kernel_rfl) (by kernel_rfl) (by kernel_rfl) (fun _ _ _ h => h) (Or.inl ⟨by kernel_rfl, ?_⟩) (by assumption) ?_
    rotate_left 1
    · intro w hSw
      try dsimp only at hSw
      go_simp
      try with_reducible rfl
    try simp only [Act.put, List.getElem_toArray, List.getElem_cons_succ, List.getElem_cons_zero, List.setIfInBounds_toArray, List.set_cons_zero, List.set_cons_succ]
    refine wpAnyH_take (i := 21) (v := ?_) rfl (by kernel_rfl) (by kernel_rfl) (by kernel_rfl) (fun _ _ _ h => h) (Or.inl ⟨by kernel_rfl, ?_⟩) (by assumption) ?_
    rotate_left 1
    · intro w hSw
      try dsimp only at hSw
      go_simp
      try with_reducible rfl
    try simp only [Act.put, List.getElem_toArray, List.getElem_cons_succ, List.getElem_cons_zero, List.setIfInBounds_toArray, List.set_cons_zero, List.set_cons_succ]
    refine wpAnyH_take (i := 22) (v := ?_) rfl (by kernel_rfl) (by kernel_rfl) (by kernel_rfl) (fun _ _ _ h => h) (Or.inl ⟨by kernel_rfl, ?_⟩) (by assumption) ?_
    rotate_left 1
    · intro w hSw
      try dsimp only at hSw
      go_simp
      try with_reducible rfl
    try simp only [Act.put, List.getElem_toArray, List.getElem_cons_succ, List.getElem_cons_zero, List.setIfInBounds_toArray, List.set_cons_zero, List.set_cons_succ]
    refine wpAnyH_take (i := 23) (v := ?_) rfl (by kernel_rfl) (by kernel_rfl) (by kernel_rfl) (fun _ _ _ h => h) (Or.inl ⟨by kernel_rfl, ?_⟩) (by assumption) ?_
    rotate_left 1
    · intro w hSw
      try dsimp only at hSw
      go_simp
      try with_reducible rfl
    try simp only [Act.put, List.getElem_toArray, List.getElem_cons_succ, List.getElem_cons_zero, List.setIfInBounds_toArray, List.set_cons_zero, List.set_cons_succ]
    refine wpAnyH_take (i := 24) (v := ?_) rfl (by kernel_rfl) (by kernel_rfl) (by kernel_rfl) (fun _ _ _ h => h) (Or.inl ⟨by kernel_rfl, ?_⟩) (by assumption) ?_
    rotate_left 1
    · intro w hSw
      try dsimp only at hSw
      go_simp
      try with_reducible rfl
    try simp only [Act.put, List.getElem_toArray, List.getElem_cons_succ, List.getElem_cons_zero, List.setIfInBounds_toArray, List.set_cons_zero, List.set_cons_succ]
    refine wpAnyH_take (i := 25) (v := ?_) rfl (by kernel_rfl) (by kernel_rfl) (by kernel_rfl) (fun _ _ _ h => h) (Or.inl ⟨by kernel_rfl, ?_⟩) (by assumption) ?_
    rotate_left 1
    · intro w hSw
      try dsimp only at hSw
      go_simp
      try with_reducible rfl
    try simp only [Act.put, List.getElem_toArray, List.getElem_cons_succ, List.getElem_cons_zero, List.setIfInBounds_toArray, List.set_cons_zero, List.set_cons_succ]
    refine wpAnyH_ready (rs := [26]) (by kernel_rfl) (by simp) ?_
    refine AllReadyH.cons rfl (fun K hK => ?_) AllReadyH.nil
    go_simp
    have C_x := Lib.hid (C_0.out.below (Below.refl _ W0).drew)
    have R_x := Lib.hid (R_0.out.below (Below.refl _ W0).drew)
    go_at_call 62
    refine (gIs_any P Q G hmo _ _ _ p.c rfl hl1b _ (C_x.out.ints).1).mono ?_
    rw [KD.out]
    rintro e v1 ⟨rfl, hp⟩
    have HW_1 := Lib.hid (bt (Below.refl _ W0).drew hp)
    clear hp C_x R_x
    go_wp2_with fail
    refine hK.out _ _ (by first | exact HK.out _ HW_1.out | (dsimp only; exact HK.out _ HW_1.out)) (fun hHeld => ?_)
    clear hK K
    try simp only [Act.put, List.getElem_toArray, List.getElem_cons_succ, List.getElem_cons_zero, List.setIfInBounds_toArray, List.set_cons_zero, List.set_cons_succ]
    refine wpAnyH_take (i := 27) (v := ?_) rfl (by kernel_rfl) (by kernel_rfl) (by kernel_rfl) (fun _ _ _ h => h) (Or.inl ⟨by kernel_rfl, ?_⟩) (by assumption) ?_
    rotate_left 1
    · intro w hSw
      try dsimp only at hSw
      go_simp
      try with_reducible rfl
    try simp only [Act.put, List.getElem_toArray, List.getElem_cons_succ, List.getElem_cons_zero, List.setIfInBounds_toArray, List.set_cons_zero, List.set_cons_succ]
    refine wpAnyH_take (i := 28) (v := ?_) rfl (by kernel_rfl) (by kernel_rfl) (by kernel_rfl) (fun _ _ _ h => h) (Or.inl ⟨by kernel_rfl, ?_⟩) (by assumption) ?_
    rotate_left 1
    · intro w hSw
      try dsimp only at hSw
      go_simp
      try with_reducible rfl
    try simp only [Act.put, List.getElem_toArray, List.getElem_cons_succ, List.getElem_cons_zero, List.setIfInBounds_toArray, List.set_cons_zero, List.set_cons_succ]
    refine wpAnyH_take (i := 29) (v := ?_) rfl (by kernel_rfl) (by kernel_rfl) (by kernel_rfl) (fun _ _ _ h => h) (Or.inl ⟨by kernel_rfl, ?_⟩) (by assumption) ?_
    rotate_left 1
    · intro w hSw
      try dsimp only at hSw
      go_simp
      try with_reducible rfl
    try simp only [Act.put, List.getElem_toArray, List.getElem_cons_succ, List.getElem_cons_zero, List.setIfInBounds_toArray, List.set_cons_zero, List.set_cons_succ]
    refine wpAnyH_take (i := 30) (v := undef) rfl (by kernel_rfl) (by kernel_rfl) (by kernel_rfl) (fun _ _ _ h => h) (Or.inr ⟨by kernel_rfl, rfl⟩) (by assumption) ?_
    try simp only [Act.put, List.getElem_toArray, List.getElem_cons_succ, List.getElem_cons_zero, List.setIfInBounds_toArray, List.set_cons_zero, List.set_cons_succ]
    refine wpAnyH_take (i := 31) (v := undef) rfl (by kernel_rfl) (by kernel_rfl) (by kernel_rfl) (fun _ _ _ h => h) (Or.inr ⟨by kernel_rfl, rfl⟩) (by assumption) ?_
    try simp only [Act.put, List.getElem_toArray, List.getElem_cons_succ, List.getElem_cons_zero, List.setIfInBounds_toArray, List.set_cons_zero, List.set_cons_succ]
    refine wpAnyH_take (i := 32) (v := undef) rfl (by kernel_rfl) (by kernel_rfl) (by kernel_rfl) (fun _ _ _ h => h) (Or.inr ⟨by kernel_rfl, rfl⟩) (by assumption) ?_
    try simp only [Act.put, List.getElem_toArray, List.getElem_cons_succ, List.getElem_cons_zero, List.setIfInBounds_toArray, List.set_cons_zero, List.set_cons_succ]
    refine wpAnyH_take (i := 33) (v := undef) rfl (by kernel_rfl) (by kernel_rfl) (by kernel_rfl) (fun _ _ _ h => h) (Or.inr ⟨by kernel_rfl, rfl⟩) (by assumption) ?_
    try simp only [Act.put, List.getElem_toArray, List.getElem_cons_succ, List.getElem_cons_zero, List.setIfInBounds_toArray, List.set_cons_zero, List.set_cons_succ]
    refine wpAnyH_take (i := 34) (v := undef) rfl (by kernel_rfl) (by kernel_rfl) (by kernel_rfl) (fun _ _ _ h => h) (Or.inr ⟨by kernel_rfl, rfl⟩) (by assumption) ?_
    try simp only [Act.put, List.getElem_toArray, List.getElem_cons_succ, List.getElem_cons_zero, List.setIfInBounds_toArray, List.set_cons_zero, List.set_cons_succ]
    refine wpAnyH_take (i := 35) (v := ?_) rfl (by kernel_rfl) (by kernel_rfl) (by kernel_rfl) (fun _ _ _ h => h) (Or.inl ⟨by kernel_rfl, ?_⟩) (by assumption) ?_
    rotate_left 1
    · intro w hSw
      try dsimp only at hSw
      go_simp
      try with_reducible rfl
    try simp only [Act.put, List.getElem_toArray, List.getElem_cons_succ, List.getElem_cons_zero, List.setIfInBounds_toArray, List.set_cons_zero, List.set_cons_succ]
    refine wpAnyH_done (by kernel_rfl) ?_ _
    go_wp2
    go_ret
    exact ⟨rfl, bt HB_0.out (HW_1.out)⟩
  have KD := Lib.hid h3
  cases h4 : allIn p.r 0 (Q - 1)
  · have KE := Lib.hid h4
    obtain rfl : r = false := HR.out.symm.trans (by simp only [svV]; simp [h4])
    clear h4 h0 h1 h2
    clear h3
    refine wp_region_held_drew (S := (fun w' => (w'.cell? ⟨w.heap.size, 0, none⟩ = some (.int .i64 P) ∧ w'.cell? ⟨w.heap.size, 1, none⟩ = some (.int .i64 Q) ∧ w'.cell? ⟨w.heap.size, 2, none⟩ = some (.int .i64 G)) ∧ (w'.cell? ⟨w.heap.size + 1, 0, none⟩ = some (.slice a1 p.c.length c1) ∧ w'.cell? ⟨w.heap.size + 1, 1, none⟩ = some (.slice a2 p.h.length c2) ∧ w'.cell? ⟨w.heap.size + 1, 2, none⟩ = some (.slice a3 p.r.length c3)) ∧ w'.cell? ⟨b0, o0, none⟩ = some (.slice x0a z0.length x0c))) (by kernel_rfl) (by first | exact HK.out _ (Below.refl _ W0).drew | (dsimp only; exact HK.out _ (Below.refl _ W0).drew)) (fun hHeld => ?_)
    refine wpAnyH_take (i := 0) (v := ?_) rfl (by kernel_rfl) (by kernel_rfl) (by kernel_rfl) (fun _ _ _ h => h) (Or.inl ⟨by kernel_rfl, ?_⟩) (by assumption) ?_
    rotate_left 1
    · intro w hSw
      try dsimp only at hSw
      go_simp
      try with_reducible rfl
    try simp only [Act.put, List.getElem_toArray, List.getElem_cons_succ, List.getElem_cons_zero, List.setIfInBounds_toArray, List.set_cons_zero, List.set_cons_succ]
    refine wpAnyH_take (i := 1) (v := ?_) rfl (by kernel_rfl) (by kernel_rfl) (by kernel_rfl) (fun _ _ _ h => h) (Or.inl ⟨by kernel_rfl, ?_⟩) (by assumption) ?_
    rotate_left 1
    · intro w hSw
      try dsimp only at hSw
      go_simp
      try with_reducible rfl
    try simp only [Act.put, List.getElem_toArray, List.getElem_cons_succ, List.getElem_cons_zero, List.setIfInBounds_toArray, List.set_cons_zero, List.set_cons_succ]
    refine wpAnyH_take (i := 2) (v := ?_) rfl (by kernel_rfl) (by kernel_rfl) (by kernel_rfl) (fun _ _ _ h => h) (Or.inl ⟨by kernel_rfl, ?_⟩) (by assumption) ?_
    rotate_left 1
    · intro w hSw
      try dsimp only at hSw
      go_simp
      try with_reducible rfl
    try simp only [Act.put, List.getElem_toArray, List.getElem_cons_succ, List.getElem_cons_zero, List.setIfInBounds_toArray, List.set_cons_zero, List.set_cons_succ]
    refine wpAnyH_take (i := 3) (v := ?_) rfl (by kernel_rfl) (by kernel_rfl) (by kernel_rfl) (fun _ _ _ h => h) (Or.inl ⟨by kernel_rfl, ?_⟩) (by assumption) ?_
    rotate_left 1
    · intro w hSw
      try dsimp only at hSw
      go_simp
      try with_reducible rfl
    try simp only [Act.put, List.getElem_toArray, List.getElem_cons_succ, List.getElem_cons_zero, List.setIfInBounds_toArray, List.set_cons_zero, List.set_cons_succ]
    refine wpAnyH_take (i := 4) (v := ?_) rfl (by kernel_rfl) (by kernel_rfl) (by kernel_rfl) (fun _ _ _ h => h) (Or.inl ⟨by kernel_rfl, ?_⟩) (by assumption) ?_
    rotate_left 1
    · intro w hSw
      try dsimp only at hSw
      go_simp
      try with_reducible rfl
    try simp only [Act.put, List.getElem_toArray, List.getElem_cons_succ, List.getElem_cons_zero, List.setIfInBounds_toArray, List.set_cons_zero, List.set_cons_succ]
    refine wpAnyH_take (i := 5) (v := ?_) rfl (by kernel_rfl) (by kernel_rfl) (by kernel_rfl) (fun _ _ _ h => h) (Or.inl ⟨by kernel_rfl, ?_⟩) (by assumption) ?_
    rotate_left 1
    · intro w hSw
      try dsimp only at hSw
      go_simp
      try with_reducible rfl
    try simp only [Act.put, List.getElem_toArray, List.getElem_cons_succ, List.getElem_cons_zero, List.setIfInBounds_toArray, List.set_cons_zero, List.set_cons_succ]
    refine wpAnyH_take (i := 6) (v := ?_) rfl (by kernel_rfl) (by kernel_rfl) (by kernel_rfl) (fun _ _ _ h => h) (Or.inl ⟨by kernel_rfl, ?_⟩) (by assumption) ?_
    rotate_left 1
    · intro w hSw
      try dsimp only at hSw
      go_simp
      try with_reducible rfl
    try simp only [Act.put, List.getElem_toArray, List.getElem_cons_succ, List.getElem_cons_zero, List.setIfInBounds_toArray, List.set_cons_zero, List.set_cons_succ]
    refine wpAnyH_take (i := 7) (v := ?_) rfl (by kernel_rfl) (by kernel_rfl) (by kernel_rfl) (fun _ _ _ h => h) (Or.inl ⟨by kernel_rfl, ?_⟩) (by assumption) ?_
    rotate_left 1
    · intro w hSw
      try dsimp only at hSw
      go_simp
      try with_reducible rfl
    try simp only [Act.put, List.getElem_toArray, List.getElem_cons_succ, List.getElem_cons_zero, List.setIfInBounds_toArray, List.set_cons_zero, List.set_cons_succ]
    refine wpAnyH_take (i := 8) (v := ?_) rfl (by kernel_rfl) (by kernel_rfl) (by kernel_rfl) (fun _ _ _ h => h) (Or.inl ⟨by kernel_rfl, ?_⟩) (by assumption) ?_
    rotate_left 1
    · intro w hSw
      try dsimp only at hSw
      go_simp
      try with_reducible rfl
    try simp only [Act.put, List.getElem_toArray, List.getElem_cons_succ, List.getElem_cons_zero, List.setIfInBounds_toArray, List.set_cons_zero, List.set_cons_succ]
    refine wpAnyH_take (i := 9) (v := ?_) rfl (by kernel_rfl) (by kernel_rfl) (by kernel_rfl) (fun _ _ _ h => h) (Or.inl ⟨by kernel_rfl, ?_⟩) (by assumption) ?_
    rotate_left 1
    · intro w hSw
      try dsimp only at hSw
      go_simp
      try with_reducible rfl
    try simp only [Act.put, List.getElem_toArray, List.getElem_cons_succ, List.getElem_cons_zero, List.setIfInBounds_toArray, List.set_cons_zero, List.set_cons_succ]
    refine wpAnyH_take (i := 10) (v := ?_) rfl (by kernel_rfl) (by kernel_rfl) (by kernel_rfl) (fun _ _ _ h => h) (Or.inl ⟨by kernel_rfl, ?_⟩) (by assumption) ?_
    rotate_left 1
    · intro w hSw
      try dsimp only at hSw
      go_simp
      try with_reducible rfl
    try simp only [Act.put, List.getElem_toArray, List.getElem_cons_succ, List.getElem_cons_zero, List.setIfInBounds_toArray, List.set_cons_zero, List.set_cons_succ]
    refine wpAnyH_take (i := 11) (v := ?_) rfl (by kernel_rfl) (by kernel_rfl) (by kernel_rfl) (fun _ _ _ h => h) (Or.inl ⟨by kernel_rfl, ?_⟩) (by assumption) ?_
    rotate_left 1
    · intro w hSw
      try dsimp only at hSw
      go_simp
      try with_reducible rfl
    try simp only [Act.put, List.getElem_toArray, List.getElem_cons_succ, List.getElem_cons_zero, List.setIfInBounds_toArray, List.set_cons_zero, List.set_cons_succ]
    refine wpAnyH_take (i := 12) (v := ?_) rfl (by kernel_rfl) (by kernel_rfl) (by kernel_rfl) (fun _ _ _ h => h) (Or.inl ⟨by kernel_rfl, ?_⟩) (by assumption) ?_
    rotate_left 1
    · intro w hSw
      try dsimp only at hSw
      go_simp
      try with_reducible rfl
    try simp only [Act.put, List.getElem_toArray, List.getElem_cons_succ, List.getElem_cons_zero, List.setIfInBounds_toArray, List.set_cons_zero, List.set_cons_succ]
    refine wpAnyH_take (i := 13) (v := ?_) rfl (by kernel_rfl) (by kernel_rfl) (by kernel_rfl) (fun _ _ _ h => h) (Or.inl ⟨by kernel_rfl, ?_⟩) (by assumption) ?_
    rotate_left 1
    · intro w hSw
      try dsimp only at hSw
      go_simp
      try with_reducible rfl
    try simp only [Act.put, List.getElem_toArray, List.getElem_cons_succ, List.getElem_cons_zero, List.setIfInBounds_toArray, List.set_cons_zero, List.set_cons_succ]
    refine wpAnyH_take (i := 14) (v := ?_) rfl (by kernel_rfl) (by kernel_rfl) (by kernel_rfl) (fun _ _ _ h => h) (Or.inl ⟨by kernel_rfl, ?_⟩) (by assumption) ?_
    rotate_left 1
    · intro w hSw
      try dsimp only at hSw
      go_simp
      try with_reducible rfl
    try simp only [Act.put, List.getElem_toArray, List.getElem_cons_succ, List.getElem_cons_zero, List.setIfInBounds_toArray, List.set_cons_zero, List.set_cons_succ]
    refine wpAnyH_take (i := 15) (v := ?_) rfl (by kernel_rfl) (by kernel_rfl) (by kernel_rfl) (fun _ _ _ h => h) (Or.inl ⟨by kernel_rfl, ?_⟩) (by assumption) ?_
    rotate_left 1
    · intro w hSw
      try dsimp only at hSw
      go_simp
      try with_reducible rfl
    try simp only [Act.put, List.getElem_toArray, List.getElem_cons_succ, List.getElem_cons_zero, List.setIfInBounds_toArray, List.set_cons_zero, List.set_cons_succ]
    refine wpAnyH_take (i := 16) (v := ?_) rfl (by kernel_rfl) (by kernel_rfl) (by kernel_rfl) (fun _ _ _ h => h) (Or.inl ⟨by kernel_rfl, ?_⟩) (by assumption) ?_
    rotate_left 1
    · intro w hSw
      try dsimp only at hSw
      go_simp
      try with_reducible rfl
    try simp only [Act.put, List.getElem_toArray, List.getElem_cons_succ, List.getElem_cons_zero, List.setIfInBounds_toArray, List.set_cons_zero, List.set_cons_succ]
    refine wpAnyH_take (i := 17) (v := ?_) rfl (by kernel_rfl) (by kernel_rfl) (by kernel_rfl) (fun _ _ _ h => h) (Or.inl ⟨by kernel_rfl, ?_⟩) (by assumption) ?_
    rotate_left 1
    · intro w hSw
      try dsimp only at hSw
      go_simp
      try with_reducible rfl
    try simp only [Act.put, List.getElem_toArray, List.getElem_cons_succ, List.getElem_cons_zero, List.setIfInBounds_toArray, List.set_cons_zero, List.set_cons_succ]
    refine wpAnyH_take (i := 18) (v := ?_) rfl (by kernel_rfl) (by kernel_rfl) (by kernel_rfl) (fun _ _ _ h => h) (Or.inl ⟨by kernel_rfl, ?_⟩) (by assumption) ?_
    rotate_left 1
    · intro w hSw
      try dsimp only at hSw
      go_simp
      try with_reducible rfl
    try simp only [Act.put, List.getElem_toArray, List.getElem_cons_succ, List.getElem_cons_zero, List.setIfInBounds_toArray, List.set_cons_zero, List.set_cons_succ]
    refine wpAnyH_take (i := 19) (v := ?_) rfl (by kernel_rfl) (by kernel_rfl) (by kernel_rfl) (fun _ _ _ h => h) (Or.inl ⟨by kernel_rfl, ?_⟩) (by assumption) ?_
    rotate_left 1
    · intro w hSw
      try dsimp only at hSw
      go_simp
      try with_reducible rfl
    try simp only [Act.put, List.getElem_toArray, List.getElem_cons_succ, List.getElem_cons_zero, List.setIfInBounds_toArray, List.set_cons_zero, List.set_cons_succ]
    refine wpAnyH_take (i := 20) (v := ?_) rfl (by kernel_rfl) (by kernel_rfl) (by kernel_rfl) (fun _ _ _ h => h) (Or.inl ⟨by kernel_rfl, ?_⟩) (by assumption) ?_
    rotate_left 1
    · intro w hSw
      try dsimp only at hSw
      go_simp
      try with_reducible rfl
    try simp only [Act.put, List.getElem_toArray, List.getElem_cons_succ, List.getElem_cons_zero, List.setIfInBounds_toArray, List.set_cons_zero, List.set_cons_succ]
    refine wpAnyH_take (i := 21) (v := ?_) rfl (by kernel_rfl) (by kernel_rfl) (by kernel_rfl) (fun _ _ _ h => h) (Or.inl ⟨by kernel_rfl, ?_⟩) (by assumption) ?_
    rotate_left 1
    · intro w hSw
      try dsimp only at hSw
      go_simp
      try with_reducible rfl
    try simp only [Act.put, List.getElem_toArray, List.getElem_cons_succ, List.getElem_cons_zero, List.setIfInBounds_toArray, List.set_cons_zero, List.set_cons_succ]
    refine wpAnyH_take (i := 22) (v := ?_) rfl (by kernel_rfl) (by kernel_rfl) (by kernel_rfl) (fun _ _ _ h => h) (Or.inl ⟨by kernel_rfl, ?_⟩) (by assumption) ?_
    rotate_left 1
    · intro w hSw
      try dsimp only at hSw
      go_simp
      try with_reducible rfl
    try simp only [Act.put, List.getElem_toArray, List.getElem_cons_succ, List.getElem_cons_zero, List.setIfInBounds_toArray, List.set_cons_zero, List.set_cons_succ]
    refine wpAnyH_take (i := 23) (v := ?_) rfl (by kernel_rfl) (by kernel_rfl) (by kernel_rfl) (fun _ _ _ h => h) (Or.inl ⟨by kernel_rfl, ?_⟩) (by assumption) ?_
    rotate_left 1
    · intro w hSw
      try dsimp only at hSw
      go_simp
      try with_reducible rfl
    try simp only [Act.put, List.getElem_toArray, List.getElem_cons_succ, List.getElem_cons_zero, List.setIfInBounds_toArray, List.set_cons_zero, List.set_cons_succ]
    refine wpAnyH_take (i := 24) (v := ?_) rfl (by kernel_rfl) (by kernel_rfl) (by kernel_rfl) (fun _ _ _ h => h) (Or.inl ⟨by kernel_rfl, ?_⟩) (by assumption) ?_
    rotate_left 1
    · intro w hSw
      try dsimp only at hSw
      go_simp
      try with_reducible rfl
    try simp only [Act.put, List.getElem_toArray, List.getElem_cons_succ, List.getElem_cons_zero, List.setIfInBounds_toArray, List.set_cons_zero, List.set_cons_succ]
    refine wpAnyH_take (i := 25) (v := ?_) rfl (by kernel_rfl) (by kernel_rfl) (by kernel_rfl) (fun _ _ _ h => h) (Or.inl ⟨by kernel_rfl, ?_⟩) (by assumption) ?_
    rotate_left 1
    · intro w hSw
      try dsimp only at hSw
      go_simp
      try with_reducible rfl
    try simp only [Act.put, List.getElem_toArray, List.getElem_cons_succ, List.getElem_cons_zero, List.setIfInBounds_toArray, List.set_cons_zero, List.set_cons_succ]
    refine wpAnyH_ready (rs := [26]) (by kernel_rfl) (by simp) ?_
    refine AllReadyH.cons rfl (fun K hK => ?_) AllReadyH.nil
    go_simp
    have C_x := Lib.hid (C_0.out.below (Below.refl _ W0).drew)
    have R_x := Lib.hid (R_0.out.below (Below.refl _ W0).drew)
    go_at_call 62
    refine (gIs_any P Q G hmo _ _ _ p.c rfl hl1b _ (C_x.out.ints).1).mono ?_
    rw [KD.out]
    rintro e v1 ⟨rfl, hp⟩
    have HW_1 := Lib.hid (bt (Below.refl _ W0).drew hp)
    clear hp C_x R_x
    go_wp2_with fail
    refine hK.out _ _ (by first | exact HK.out _ HW_1.out | (dsimp only; exact HK.out _ HW_1.out)) (fun hHeld => ?_)
    clear hK K
    try simp only [Act.put, List.getElem_toArray, List.getElem_cons_succ, List.getElem_cons_zero, List.setIfInBounds_toArray, List.set_cons_zero, List.set_cons_succ]
    refine wpAnyH_take (i := 27) (v := ?_) rfl (by kernel_rfl) (by kernel_rfl) (by kernel_rfl) (fun _ _ _ h => h) (Or.inl ⟨by kernel_rfl, ?_⟩) (by assumption) ?_
    rotate_left 1
    · intro w hSw
      try dsimp only at hSw
      go_simp
      try with_reducible rfl
    try simp only [Act.put, List.getElem_toArray, List.getElem_cons_succ, List.getElem_cons_zero, List.setIfInBounds_toArray, List.set_cons_zero, List.set_cons_succ]
    refine wpAnyH_take (i := 28) (v := ?_) rfl (by kernel_rfl) (by kernel_rfl) (by kernel_rfl) (fun _ _ _ h => h) (Or.inl ⟨by kernel_rfl, ?_⟩) (by assumption) ?_
    rotate_left 1
    · intro w hSw
      try dsimp only at hSw
      go_simp
      try with_reducible rfl
    try simp only [Act.put, List.getElem_toArray, List.getElem_cons_succ, List.getElem_cons_zero, List.setIfInBounds_toArray, List.set_cons_zero, List.set_cons_succ]
    refine wpAnyH_take (i := 29) (v := ?_) rfl (by kernel_rfl) (by kernel_rfl) (by kernel_rfl) (fun _ _ _ h => h) (Or.inl ⟨by kernel_rfl, ?_⟩) (by assumption) ?_
    rotate_left 1
    · intro w hSw
      try dsimp only at hSw
      go_simp
      try with_reducible rfl
    try simp only [Act.put, List.getElem_toArray, List.getElem_cons_succ, List.getElem_cons_zero, List.setIfInBounds_toArray, List.set_cons_zero, List.set_cons_succ]
    refine wpAnyH_take (i := 30) (v := ?_) rfl (by kernel_rfl) (by kernel_rfl) (by kernel_rfl) (fun _ _ _ h => h) (Or.inl ⟨by kernel_rfl, ?_⟩) (by assumption) ?_
    rotate_left 1
    · intro w hSw
      try dsimp only at hSw
      go_simp
      try with_reducible rfl
    try simp only [Act.put, List.getElem_toArray, List.getElem_cons_succ, List.getElem_cons_zero, List.setIfInBounds_toArray, List.set_cons_zero, List.set_cons_succ]
    refine wpAnyH_take (i := 31) (v := ?_) rfl (by kernel_rfl) (by kernel_rfl) (by kernel_rfl) (fun _ _ _ h => h) (Or.inl ⟨by kernel_rfl, ?_⟩) (by assumption) ?_
    rotate_left 1
    · intro w hSw
      try dsimp only at hSw
      go_simp
      try with_reducible rfl
    try simp only [Act.put, List.getElem_toArray, List.getElem_cons_succ, List.getElem_cons_zero, List.setIfInBounds_toArray, List.set_cons_zero, List.set_cons_succ]
    refine wpAnyH_take (i := 32) (v := ?_) rfl (by kernel_rfl) (by kernel_rfl) (by kernel_rfl) (fun _ _ _ h => h) (Or.inl ⟨by kernel_rfl, ?_⟩) (by assumption) ?_
    rotate_left 1
    · intro w hSw
      try dsimp only at hSw
      go_simp
      try with_reducible rfl
    try simp only [Act.put, List.getElem_toArray, List.getElem_cons_succ, List.getElem_cons_zero, List.setIfInBounds_toArray, List.set_cons_zero, List.set_cons_succ]
    refine wpAnyH_ready (rs := [33]) (by kernel_rfl) (by simp) ?_
    refine AllReadyH.cons rfl (fun K hK => ?_) AllReadyH.nil
    go_simp
    have C_x := Lib.hid (C_0.out.below HW_1.out)
    have R_x := Lib.hid (R_0.out.below HW_1.out)
    go_at_call 71
    refine (gExps_any P Q G hQQ _ _ _ p.r rfl hl3b _ (R_x.out.ints).1).mono ?_
    rw [KE.out]
    rintro e v2 ⟨rfl, hp⟩
    have HW_2 := Lib.hid (bt HW_1.out hp)
    clear hp C_x R_x
    go_wp2_with fail
    refine hK.out _ _ (by first | exact HK.out _ HW_2.out | (dsimp only; exact HK.out _ HW_2.out)) (fun hHeld => ?_)
    clear hK K
    try simp only [Act.put, List.getElem_toArray, List.getElem_cons_succ, List.getElem_cons_zero, List.setIfInBounds_toArray, List.set_cons_zero, List.set_cons_succ]
    refine wpAnyH_take (i := 34) (v := ?_) rfl (by kernel_rfl) (by kernel_rfl) (by kernel_rfl) (fun _ _ _ h => h) (Or.inl ⟨by kernel_rfl, ?_⟩) (by assumption) ?_
    rotate_left 1
    · intro w hSw
      try dsimp only at hSw
      go_simp
      try with_reducible rfl
    try simp only [Act.put, List.getElem_toArray, List.getElem_cons_succ, List.getElem_cons_zero, List.setIfInBounds_toArray, List.set_cons_zero, List.set_cons_succ]
    refine wpAnyH_take (i := 35) (v := ?_) rfl (by kernel_rfl) (by kernel_rfl) (by kernel_rfl) (fun _ _ _ h => h) (Or.inl ⟨by kernel_rfl, ?_⟩) (by assumption) ?_
    rotate_left 1
    · intro w hSw
      try dsimp only at hSw
      go_simp
      try with_reducible rfl
    try simp only [Act.put, List.getElem_toArray, List.getElem_cons_succ, List.getElem_cons_zero, List.setIfInBounds_toArray, List.set_cons_zero, List.set_cons_succ]
    refine wpAnyH_done (by kernel_rfl) ?_ _
    go_wp2
    go_ret
    exact ⟨rfl, bt HB_0.out (HW_2.out)⟩
  have KE := Lib.hid h4
  have hPP := hmo.1
  have hQ2 := hgr.2.1
  have hP0 := hgr.1
  have hG0 := hgr.2.2
  obtain ⟨e0, he0⟩ : ∃ e0, p.h = [e0] := by
    have h9 := E1.out
    match hh : p.h, h9 with
    | [a], _ => exact ⟨a, rfl⟩
  obtain ⟨bh, oh, eh, ha2, _, hch, hdh⟩ := (H_0.out.ints).1.at (k := 0) (by have := E1.out; omega)
  obtain ⟨bc, oc, _, ha1, _, _, _⟩ := (C_0.out.ints).1.at (k := 0) (by have := E0.out; omega)
  obtain ⟨bi, oi, _, hz1, _, _, _⟩ := (M2_0.out.ints).1.at (k := 0) (by have := HIL.out; omega)
  obtain rfl : eh = e0 := by rw [he0] at hdh; simp at hdh; exact hdh.symm
  subst ha2 ha1 hz1
  rw [Nat.add_zero] at hch
  have HHC := Lib.hid hch
  have hhl : (0 : Int) < (p.h.length : Int) := by have := E1.out; omega
  have HHD := Lib.hid (show p.h.headD 0 = eh by rw [he0]; rfl)
  have HST := Lib.hid (fun (W : World) (q1 : InS B1 W (.slice (some ⟨b0, o0, none⟩) rows.length y2) rows) (q2 : InI B2 W (.slice (some ⟨bi, oi, none⟩) im.length z2) im) (q3 : InI B W (.slice (some ⟨bc, oc, none⟩) p.c.length c1) p.c) => sStatement_any (rows := rows) (im := im) (cm := p.c) (by omega) HNS.out (by have := HIL.out; omega) hlc q1 q2 q3)
  have HDIG := Lib.hid (show ∀ z ∈ rows.flatten ++ im ++ p.c, 0 ≤ z ∧ z ≤ 4611686018427387903 from by
    intro z hz
    have h9 : 0 ≤ z ∧ z < P := by
      rcases List.mem_append.1 hz with h | h
      · rcases List.mem_append.1 h with h | h
        · obtain ⟨l, hl, hzl⟩ := List.mem_flatten.1 h
          exact all_rng (HROW.out l hl).2 z hzl
        · exact all_rng hie z h
      · exact all_rng h3 z h
    exact ⟨h9.1, by omega⟩)
  have HLL := Lib.hid (show (rows.flatten ++ im ++ p.c).length ≤ 100000000 from by
    rw [List.length_append, List.length_append, nS_flat]; have := HNS.out; have := HIL.out; omega)
  obtain ⟨ch, hchx⟩ : ∃ ch, chX P Q G s (rows.flatten ++ im ++ p.c) = ch := ⟨_, rfl⟩
  have hchr : 0 ≤ ch ∧ ch < Q := hchx ▸ chX_rng (by omega)
  have HCHX := Lib.hid hchx
  have HXE := Lib.hid (show ∀ z ∈ p.c, 0 ≤ z ∧ z < P from all_rng h3)
  have HYE := Lib.hid (show ∀ z ∈ im, 0 ≤ z ∧ z < P from all_rng hie)
  have HRE := Lib.hid (exps_iff h4)
  have HR5 := Lib.hid (show r = (decide (eh = ch) && rowOk P eh p.r rows p.c im) from by
    rw [← HR.out]; simp only [svV]; simp only [h0, h1, h2, h3, h4, HW0.out, HHD.out, hchx, decide_true, Bool.true_and])
  generalize hlst : rows.flatten ++ im ++ p.c = lst at HST HDIG HLL HCHX
  clear h0 h1 h2 h3 h4 he0 hch hdh hchx hlst HR
  refine wp_region_held_drew (S := (fun w' => (w'.cell? ⟨w.heap.size, 0, none⟩ = some (.int .i64 P) ∧ w'.cell? ⟨w.heap.size, 1, none⟩ = some (.int .i64 Q) ∧ w'.cell? ⟨w.heap.size, 2, none⟩ = some (.int .i64 G)) ∧ (w'.cell? ⟨w.heap.size + 1, 0, none⟩ = some (.slice (some ⟨bc, oc, none⟩) p.c.length c1) ∧ w'.cell? ⟨w.heap.size + 1, 1, none⟩ = some (.slice (some ⟨bh, oh, none⟩) p.h.length c2) ∧ w'.cell? ⟨w.heap.size + 1, 2, none⟩ = some (.slice a3 p.r.length c3)) ∧ w'.cell? ⟨b0, o0, none⟩ = some (.slice x0a z0.length x0c))) (by kernel_rfl) (by first | exact HK.out _ (Below.refl _ W0).drew | (dsimp only; exact HK.out _ (Below.refl _ W0).drew)) (fun hHeld => ?_)
  refine wpAnyH_take (i := 0) (v := ?_) rfl (by kernel_rfl) (by kernel_rfl) (by kernel_rfl) (fun _ _ _ h => h) (Or.inl ⟨by kernel_rfl, ?_⟩) (by assumption) ?_
  rotate_left 1
  · intro w hSw
    try dsimp only at hSw
    go_simp
    try with_reducible rfl
  try simp only [Act.put, List.getElem_toArray, List.getElem_cons_succ, List.getElem_cons_zero, List.setIfInBounds_toArray, List.set_cons_zero, List.set_cons_succ]
  refine wpAnyH_take (i := 1) (v := ?_) rfl (by kernel_rfl) (by kernel_rfl) (by kernel_rfl) (fun _ _ _ h => h) (Or.inl ⟨by kernel_rfl, ?_⟩) (by assumption) ?_
  rotate_left 1
  · intro w hSw
    try dsimp only at hSw
    go_simp
    try with_reducible rfl
  try simp only [Act.put, List.getElem_toArray, List.getElem_cons_succ, List.getElem_cons_zero, List.setIfInBounds_toArray, List.set_cons_zero, List.set_cons_succ]
  refine wpAnyH_take (i := 2) (v := ?_) rfl (by kernel_rfl) (by kernel_rfl) (by kernel_rfl) (fun _ _ _ h => h) (Or.inl ⟨by kernel_rfl, ?_⟩) (by assumption) ?_
  rotate_left 1
  · intro w hSw
    try dsimp only at hSw
    go_simp
    try with_reducible rfl
  try simp only [Act.put, List.getElem_toArray, List.getElem_cons_succ, List.getElem_cons_zero, List.setIfInBounds_toArray, List.set_cons_zero, List.set_cons_succ]
  refine wpAnyH_take (i := 3) (v := ?_) rfl (by kernel_rfl) (by kernel_rfl) (by kernel_rfl) (fun _ _ _ h => h) (Or.inl ⟨by kernel_rfl, ?_⟩) (by assumption) ?_
  rotate_left 1
  · intro w hSw
    try dsimp only at hSw
    go_simp
    try with_reducible rfl
  try simp only [Act.put, List.getElem_toArray, List.getElem_cons_succ, List.getElem_cons_zero, List.setIfInBounds_toArray, List.set_cons_zero, List.set_cons_succ]
  refine wpAnyH_take (i := 4) (v := ?_) rfl (by kernel_rfl) (by kernel_rfl) (by kernel_rfl) (fun _ _ _ h => h) (Or.inl ⟨by kernel_rfl, ?_⟩) (by assumption) ?_
  rotate_left 1
  · intro w hSw
    try dsimp only at hSw
    go_simp
    try with_reducible rfl
  try simp only [Act.put, List.getElem_toArray, List.getElem_cons_succ, List.getElem_cons_zero, List.setIfInBounds_toArray, List.set_cons_zero, List.set_cons_succ]
  refine wpAnyH_take (i := 5) (v := ?_) rfl (by kernel_rfl) (by kernel_rfl) (by kernel_rfl) (fun _ _ _ h => h) (Or.inl ⟨by kernel_rfl, ?_⟩) (by assumption) ?_
  rotate_left 1
  · intro w hSw
    try dsimp only at hSw
    go_simp
    try with_reducible rfl
  try simp only [Act.put, List.getElem_toArray, List.getElem_cons_succ, List.getElem_cons_zero, List.setIfInBounds_toArray, List.set_cons_zero, List.set_cons_succ]
  refine wpAnyH_take (i := 6) (v := ?_) rfl (by kernel_rfl) (by kernel_rfl) (by kernel_rfl) (fun _ _ _ h => h) (Or.inl ⟨by kernel_rfl, ?_⟩) (by assumption) ?_
  rotate_left 1
  · intro w hSw
    try dsimp only at hSw
    go_simp
    try with_reducible rfl
  try simp only [Act.put, List.getElem_toArray, List.getElem_cons_succ, List.getElem_cons_zero, List.setIfInBounds_toArray, List.set_cons_zero, List.set_cons_succ]
  refine wpAnyH_take (i := 7) (v := ?_) rfl (by kernel_rfl) (by kernel_rfl) (by kernel_rfl) (fun _ _ _ h => h) (Or.inl ⟨by kernel_rfl, ?_⟩) (by assumption) ?_
  rotate_left 1
  · intro w hSw
    try dsimp only at hSw
    go_simp
    try with_reducible rfl
  try simp only [Act.put, List.getElem_toArray, List.getElem_cons_succ, List.getElem_cons_zero, List.setIfInBounds_toArray, List.set_cons_zero, List.set_cons_succ]
  refine wpAnyH_take (i := 8) (v := ?_) rfl (by kernel_rfl) (by kernel_rfl) (by kernel_rfl) (fun _ _ _ h => h) (Or.inl ⟨by kernel_rfl, ?_⟩) (by assumption) ?_
  rotate_left 1
  · intro w hSw
    try dsimp only at hSw
    go_simp
    try with_reducible rfl
  try simp only [Act.put, List.getElem_toArray, List.getElem_cons_succ, List.getElem_cons_zero, List.setIfInBounds_toArray, List.set_cons_zero, List.set_cons_succ]
  refine wpAnyH_take (i := 9) (v := ?_) rfl (by kernel_rfl) (by kernel_rfl) (by kernel_rfl) (fun _ _ _ h => h) (Or.inl ⟨by kernel_rfl, ?_⟩) (by assumption) ?_
  rotate_left 1
  · intro w hSw
    try dsimp only at hSw
    go_simp
    try with_reducible rfl
  try simp only [Act.put, List.getElem_toArray, List.getElem_cons_succ, List.getElem_cons_zero, List.setIfInBounds_toArray, List.set_cons_zero, List.set_cons_succ]
  refine wpAnyH_take (i := 10) (v := ?_) rfl (by kernel_rfl) (by kernel_rfl) (by kernel_rfl) (fun _ _ _ h => h) (Or.inl ⟨by kernel_rfl, ?_⟩) (by assumption) ?_
  rotate_left 1
  · intro w hSw
    try dsimp only at hSw
    go_simp
    try with_reducible rfl
  try simp only [Act.put, List.getElem_toArray, List.getElem_cons_succ, List.getElem_cons_zero, List.setIfInBounds_toArray, List.set_cons_zero, List.set_cons_succ]
  refine wpAnyH_take (i := 11) (v := ?_) rfl (by kernel_rfl) (by kernel_rfl) (by kernel_rfl) (fun _ _ _ h => h) (Or.inl ⟨by kernel_rfl, ?_⟩) (by assumption) ?_
  rotate_left 1
  · intro w hSw
    try dsimp only at hSw
    go_simp
    try with_reducible rfl
  try simp only [Act.put, List.getElem_toArray, List.getElem_cons_succ, List.getElem_cons_zero, List.setIfInBounds_toArray, List.set_cons_zero, List.set_cons_succ]
  refine wpAnyH_take (i := 12) (v := ?_) rfl (by kernel_rfl) (by kernel_rfl) (by kernel_rfl) (fun _ _ _ h => h) (Or.inl ⟨by kernel_rfl, ?_⟩) (by assumption) ?_
  rotate_left 1
  · intro w hSw
    try dsimp only at hSw
    go_simp
    try with_reducible rfl
  try simp only [Act.put, List.getElem_toArray, List.getElem_cons_succ, List.getElem_cons_zero, List.setIfInBounds_toArray, List.set_cons_zero, List.set_cons_succ]
  refine wpAnyH_take (i := 13) (v := ?_) rfl (by kernel_rfl) (by kernel_rfl) (by kernel_rfl) (fun _ _ _ h => h) (Or.inl ⟨by kernel_rfl, ?_⟩) (by assumption) ?_
  rotate_left 1
  · intro w hSw
    try dsimp only at hSw
    go_simp
    try with_reducible rfl
  try simp only [Act.put, List.getElem_toArray, List.getElem_cons_succ, List.getElem_cons_zero, List.setIfInBounds_toArray, List.set_cons_zero, List.set_cons_succ]
  refine wpAnyH_take (i := 14) (v := ?_) rfl (by kernel_rfl) (by kernel_rfl) (by kernel_rfl) (fun _ _ _ h => h) (Or.inl ⟨by kernel_rfl, ?_⟩) (by assumption) ?_
  rotate_left 1
  · intro w hSw
    try dsimp only at hSw
    go_simp
    try with_reducible rfl
  try simp only [Act.put, List.getElem_toArray, List.getElem_cons_succ, List.getElem_cons_zero, List.setIfInBounds_toArray, List.set_cons_zero, List.set_cons_succ]
  refine wpAnyH_take (i := 15) (v := ?_) rfl (by kernel_rfl) (by kernel_rfl) (by kernel_rfl) (fun _ _ _ h => h) (Or.inl ⟨by kernel_rfl, ?_⟩) (by assumption) ?_
  rotate_left 1
  · intro w hSw
    try dsimp only at hSw
    go_simp
    try with_reducible rfl
  try simp only [Act.put, List.getElem_toArray, List.getElem_cons_succ, List.getElem_cons_zero, List.setIfInBounds_toArray, List.set_cons_zero, List.set_cons_succ]
  refine wpAnyH_take (i := 16) (v := ?_) rfl (by kernel_rfl) (by kernel_rfl) (by kernel_rfl) (fun _ _ _ h => h) (Or.inl ⟨by kernel_rfl, ?_⟩) (by assumption) ?_
  rotate_left 1
  · intro w hSw
    try dsimp only at hSw
    go_simp
    try with_reducible rfl
  try simp only [Act.put, List.getElem_toArray, List.getElem_cons_succ, List.getElem_cons_zero, List.setIfInBounds_toArray, List.set_cons_zero, List.set_cons_succ]
  refine wpAnyH_take (i := 17) (v := ?_) rfl (by kernel_rfl) (by kernel_rfl) (by kernel_rfl) (fun _ _ _ h => h) (Or.inl ⟨by kernel_rfl, ?_⟩) (by assumption) ?_
  rotate_left 1
  · intro w hSw
    try dsimp only at hSw
    go_simp
    try with_reducible rfl
  try simp only [Act.put, List.getElem_toArray, List.getElem_cons_succ, List.getElem_cons_zero, List.setIfInBounds_toArray, List.set_cons_zero, List.set_cons_succ]
  refine wpAnyH_take (i := 18) (v := ?_) rfl (by kernel_rfl) (by kernel_rfl) (by kernel_rfl) (fun _ _ _ h => h) (Or.inl ⟨by kernel_rfl, ?_⟩) (by assumption) ?_
  rotate_left 1
  · intro w hSw
    try dsimp only at hSw
    go_simp
    try with_reducible rfl
  try simp only [Act.put, List.getElem_toArray, List.getElem_cons_succ, List.getElem_cons_zero, List.setIfInBounds_toArray, List.set_cons_zero, List.set_cons_succ]
  refine wpAnyH_take (i := 19) (v := ?_) rfl (by kernel_rfl) (by kernel_rfl) (by kernel_rfl) (fun _ _ _ h => h) (Or.inl ⟨by kernel_rfl, ?_⟩) (by assumption) ?_
  rotate_left 1
  · intro w hSw
    try dsimp only at hSw
    go_simp
    try with_reducible rfl
  try simp only [Act.put, List.getElem_toArray, List.getElem_cons_succ, List.getElem_cons_zero, List.setIfInBounds_toArray, List.set_cons_zero, List.set_cons_succ]
  refine wpAnyH_take (i := 20) (v := ?_) rfl (by kernel_rfl) (by kernel_rfl) (by kernel_rfl) (fun _ _ _ h => h) (Or.inl ⟨by kernel_rfl, ?_⟩) (by assumption) ?_
  rotate_left 1
  · intro w hSw
    try dsimp only at hSw
    go_simp
    try with_reducible rfl
  try simp only [Act.put, List.getElem_toArray, List.getElem_cons_succ, List.getElem_cons_zero, List.setIfInBounds_toArray, List.set_cons_zero, List.set_cons_succ]
  refine wpAnyH_take (i := 21) (v := ?_) rfl (by kernel_rfl) (by kernel_rfl) (by kernel_rfl) (fun _ _ _ h => h) (Or.inl ⟨by kernel_rfl, ?_⟩) (by assumption) ?_
  rotate_left 1
  · intro w hSw
    try dsimp only at hSw
    go_simp
    try with_reducible rfl
  try simp only [Act.put, List.getElem_toArray, List.getElem_cons_succ, List.getElem_cons_zero, List.setIfInBounds_toArray, List.set_cons_zero, List.set_cons_succ]
  refine wpAnyH_take (i := 22) (v := ?_) rfl (by kernel_rfl) (by kernel_rfl) (by kernel_rfl) (fun _ _ _ h => h) (Or.inl ⟨by kernel_rfl, ?_⟩) (by assumption) ?_
  rotate_left 1
  · intro w hSw
    try dsimp only at hSw
    go_simp
    try with_reducible rfl
  try simp only [Act.put, List.getElem_toArray, List.getElem_cons_succ, List.getElem_cons_zero, List.setIfInBounds_toArray, List.set_cons_zero, List.set_cons_succ]
  refine wpAnyH_take (i := 23) (v := ?_) rfl (by kernel_rfl) (by kernel_rfl) (by kernel_rfl) (fun _ _ _ h => h) (Or.inl ⟨by kernel_rfl, ?_⟩) (by assumption) ?_
  rotate_left 1
  · intro w hSw
    try dsimp only at hSw
    go_simp
    try with_reducible rfl
  try simp only [Act.put, List.getElem_toArray, List.getElem_cons_succ, List.getElem_cons_zero, List.setIfInBounds_toArray, List.set_cons_zero, List.set_cons_succ]
  refine wpAnyH_take (i := 24) (v := ?_) rfl (by kernel_rfl) (by kernel_rfl) (by kernel_rfl) (fun _ _ _ h => h) (Or.inl ⟨by kernel_rfl, ?_⟩) (by assumption) ?_
  rotate_left 1
  · intro w hSw
    try dsimp only at hSw
    go_simp
    try with_reducible rfl
  try simp only [Act.put, List.getElem_toArray, List.getElem_cons_succ, List.getElem_cons_zero, List.setIfInBounds_toArray, List.set_cons_zero, List.set_cons_succ]
  refine wpAnyH_take (i := 25) (v := ?_) rfl (by kernel_rfl) (by kernel_rfl) (by kernel_rfl) (fun _ _ _ h => h) (Or.inl ⟨by kernel_rfl, ?_⟩) (by assumption) ?_
  rotate_left 1
  · intro w hSw
    try dsimp only at hSw
    go_simp
    try with_reducible rfl
  try simp only [Act.put, List.getElem_toArray, List.getElem_cons_succ, List.getElem_cons_zero, List.setIfInBounds_toArray, List.set_cons_zero, List.set_cons_succ]
  refine wpAnyH_ready (rs := [26]) (by kernel_rfl) (by simp) ?_
  refine AllReadyH.cons rfl (fun K hK => ?_) AllReadyH.nil
  go_simp
  have C_x := Lib.hid (C_0.out.below (Below.refl _ W0).drew)
  have R_x := Lib.hid (R_0.out.below (Below.refl _ W0).drew)
  go_at_call 62
  refine (gIs_any P Q G hmo _ _ _ p.c rfl hl1b _ (C_x.out.ints).1).mono ?_
  rw [KD.out]
  rintro e v1 ⟨rfl, hp⟩
  have HW_1 := Lib.hid (bt (Below.refl _ W0).drew hp)
  clear hp C_x R_x
  go_wp2_with fail
  refine hK.out _ _ (by first | exact HK.out _ HW_1.out | (dsimp only; exact HK.out _ HW_1.out)) (fun hHeld => ?_)
  clear hK K
  try simp only [Act.put, List.getElem_toArray, List.getElem_cons_succ, List.getElem_cons_zero, List.setIfInBounds_toArray, List.set_cons_zero, List.set_cons_succ]
  refine wpAnyH_take (i := 27) (v := ?_) rfl (by kernel_rfl) (by kernel_rfl) (by kernel_rfl) (fun _ _ _ h => h) (Or.inl ⟨by kernel_rfl, ?_⟩) (by assumption) ?_
  rotate_left 1
  · intro w hSw
    try dsimp only at hSw
    go_simp
    try with_reducible rfl
  try simp only [Act.put, List.getElem_toArray, List.getElem_cons_succ, List.getElem_cons_zero, List.setIfInBounds_toArray, List.set_cons_zero, List.set_cons_succ]
  refine wpAnyH_take (i := 28) (v := ?_) rfl (by kernel_rfl) (by kernel_rfl) (by kernel_rfl) (fun _ _ _ h => h) (Or.inl ⟨by kernel_rfl, ?_⟩) (by assumption) ?_
  rotate_left 1
  · intro w hSw
    try dsimp only at hSw
    go_simp
    try with_reducible rfl
  try simp only [Act.put, List.getElem_toArray, List.getElem_cons_succ, List.getElem_cons_zero, List.setIfInBounds_toArray, List.set_cons_zero, List.set_cons_succ]
  refine wpAnyH_take (i := 29) (v := ?_) rfl (by kernel_rfl) (by kernel_rfl) (by kernel_rfl) (fun _ _ _ h => h) (Or.inl ⟨by kernel_rfl, ?_⟩) (by assumption) ?_
  rotate_left 1
  · intro w hSw
    try dsimp only at hSw
    go_simp
    try with_reducible rfl
  try simp only [Act.put, List.getElem_toArray, List.getElem_cons_succ, List.getElem_cons_zero, List.setIfInBounds_toArray, List.set_cons_zero, List.set_cons_succ]
  refine wpAnyH_take (i := 30) (v := ?_) rfl (by kernel_rfl) (by kernel_rfl) (by kernel_rfl) (fun _ _ _ h => h) (Or.inl ⟨by kernel_rfl, ?_⟩) (by assumption) ?_
  rotate_left 1
  · intro w hSw
    try dsimp only at hSw
    go_simp
    try with_reducible rfl
  try simp only [Act.put, List.getElem_toArray, List.getElem_cons_succ, List.getElem_cons_zero, List.setIfInBounds_toArray, List.set_cons_zero, List.set_cons_succ]
  refine wpAnyH_take (i := 31) (v := ?_) rfl (by kernel_rfl) (by kernel_rfl) (by kernel_rfl) (fun _ _ _ h => h) (Or.inl ⟨by kernel_rfl, ?_⟩) (by assumption) ?_
  rotate_left 1
  · intro w hSw
    try dsimp only at hSw
    go_simp
    try with_reducible rfl
  try simp only [Act.put, List.getElem_toArray, List.getElem_cons_succ, List.getElem_cons_zero, List.setIfInBounds_toArray, List.set_cons_zero, List.set_cons_succ]
  refine wpAnyH_take (i := 32) (v := ?_) rfl (by kernel_rfl) (by kernel_rfl) (by kernel_rfl) (fun _ _ _ h => h) (Or.inl ⟨by kernel_rfl, ?_⟩) (by assumption) ?_
  rotate_left 1
  · intro w hSw
    try dsimp only at hSw
    go_simp
    try with_reducible rfl
  try simp only [Act.put, List.getElem_toArray, List.getElem_cons_succ, List.getElem_cons_zero, List.setIfInBounds_toArray, List.set_cons_zero, List.set_cons_succ]
  refine wpAnyH_ready (rs := [33]) (by kernel_rfl) (by simp) ?_
  refine AllReadyH.cons rfl (fun K hK => ?_) AllReadyH.nil
  go_simp
  have C_x := Lib.hid (C_0.out.below HW_1.out)
  have R_x := Lib.hid (R_0.out.below HW_1.out)
  go_at_call 71
  refine (gExps_any P Q G hQQ _ _ _ p.r rfl hl3b _ (R_x.out.ints).1).mono ?_
  rw [KE.out]
  rintro e v2 ⟨rfl, hp⟩
  have HW_2 := Lib.hid (bt HW_1.out hp)
  clear hp C_x R_x
  go_wp2_with fail
  refine hK.out _ _ (by first | exact HK.out _ HW_2.out | (dsimp only; exact HK.out _ HW_2.out)) (fun hHeld => ?_)
  clear hK K
  try simp only [Act.put, List.getElem_toArray, List.getElem_cons_succ, List.getElem_cons_zero, List.setIfInBounds_toArray, List.set_cons_zero, List.set_cons_succ]
  refine wpAnyH_take (i := 34) (v := ?_) rfl (by kernel_rfl) (by kernel_rfl) (by kernel_rfl) (fun _ _ _ h => h) (Or.inl ⟨by kernel_rfl, ?_⟩) (by assumption) ?_
  rotate_left 1
  · intro w hSw
    try dsimp only at hSw
    go_simp
    try with_reducible rfl
  try simp only [Act.put, List.getElem_toArray, List.getElem_cons_succ, List.getElem_cons_zero, List.setIfInBounds_toArray, List.set_cons_zero, List.set_cons_succ]
  refine wpAnyH_take (i := 35) (v := ?_) rfl (by kernel_rfl) (by kernel_rfl) (by kernel_rfl) (fun _ _ _ h => h) (Or.inl ⟨by kernel_rfl, ?_⟩) (by assumption) ?_
  rotate_left 1
  · intro w hSw
    try dsimp only at hSw
    go_simp
    try with_reducible rfl
  try simp only [Act.put, List.getElem_toArray, List.getElem_cons_succ, List.getElem_cons_zero, List.setIfInBounds_toArray, List.set_cons_zero, List.set_cons_succ]
  refine wpAnyH_done (by kernel_rfl) ?_ _
  have HB_2 := Lib.hid (bt HB_0.out HW_2.out)
  have hh0 := HHC.out
  have HKK := Lib.hid (show ∀ w', Below W0.heap.size W0 w' → w'.cell? ⟨bh, oh, none⟩ = some (.int .i64 eh) from fun w' hk => C1.below (v := .int .i64 eh) HHC.out hk)
  have hh2 := HKK.out _ HW_2.out
  clear hh0
  have hV2 := V_0.out.below HW_2.out
  obtain ⟨pv0, pv1, pv2, _⟩ := hV2
  go_wp2_with fail
  clear pv0 pv1 pv2 hh2
  have HK4 := Lib.hid (show ∀ w', Below v2.heap.size v2 w' → ((w'.cell? ⟨w.heap.size, 0, none⟩ = some (.int .i64 P) ∧ w'.cell? ⟨w.heap.size, 1, none⟩ = some (.int .i64 Q) ∧ w'.cell? ⟨w.heap.size, 2, none⟩ = some (.int .i64 G)) ∧ (w'.cell? ⟨w.heap.size + 1, 0, none⟩ = some (.slice (some ⟨bc, oc, none⟩) p.c.length c1) ∧ w'.cell? ⟨w.heap.size + 1, 1, none⟩ = some (.slice (some ⟨bh, oh, none⟩) p.h.length c2) ∧ w'.cell? ⟨w.heap.size + 1, 2, none⟩ = some (.slice a3 p.r.length c3))) from fun w' hk => (fun hk => ⟨G_0.out.below hk, (V_0.out.below hk).1, (V_0.out.below hk).2.1, (V_0.out.below hk).2.2.1⟩) (bt HW_2.out hk))
  have M1_2 := Lib.hid (M1_0.out.below HW_2.out)
  have M2_2 := Lib.hid (M2_0.out.below HW_2.out)
  have C_2 := Lib.hid (C_0.out.below HW_2.out)
  by_cases hF : ¬ eh = ch
  · have iF : (eh != ch) = true := by simpa using hF
    obtain rfl : r = false := HR5.out.trans (by simp [hF])
    clear hF
    go_region_held3 (fun w' => (w'.cell? ⟨w.heap.size, 0, none⟩ = some (.int .i64 P) ∧ w'.cell? ⟨w.heap.size, 1, none⟩ = some (.int .i64 Q) ∧ w'.cell? ⟨w.heap.size, 2, none⟩ = some (.int .i64 G)) ∧ (w'.cell? ⟨w.heap.size + 1, 0, none⟩ = some (.slice (some ⟨bc, oc, none⟩) p.c.length c1) ∧ w'.cell? ⟨w.heap.size + 1, 1, none⟩ = some (.slice (some ⟨bh, oh, none⟩) p.h.length c2) ∧ w'.cell? ⟨w.heap.size + 1, 2, none⟩ = some (.slice a3 p.r.length c3))) (first | exact HK4.out _ (Below.refl _ v2).drew | exact HK4.out _ HB3.out | exact HK4.out _ HB4.out) ((first
      | (go_at_call 96; refine (HST.out _ (M1_2.out.below (Below.refl _ v2).drew) (M2_2.out.below (Below.refl _ v2).drew) (C_2.out.below (Below.refl _ v2).drew)).mono ?_; rintro e v3 ⟨rl, rfl, ho, hb⟩; obtain ⟨la, lc, rfl⟩ := ho.toIn.shape; have HB3 := Lib.hid (bt (Below.refl _ v2).drew hb); have HL := Lib.hid ho.toIn; clear hb ho)
      | (go_at_call 95; refine (hChallenge_any P Q G hP0 hQ2 hG0 s hs _ _ _ lst rfl HLL.out (HL.out.ints).2.2.1 HDIG.out _ (HL.out.ints).1).mono ?_; rw [HCHX.out]; rintro e v4 ⟨rfl, hb⟩; have HB4 := Lib.hid (bt HB3.out hb); clear hb)
      | fail))
    all_goals (
      go_wp2
      go_ret
      exact ⟨rfl, bt HB_2.out HB4.out⟩)
  have hF := Decidable.not_not.1 hF
  have iF : (eh != ch) = false := by simpa using hF
  have HR6 := Lib.hid (show r = rowOk P eh p.r rows p.c im from by rw [HR5.out, hF]; simp)
  have heh : 0 ≤ eh ∧ eh < Q := hF ▸ hchr
  clear hF HR5
  go_region_held3 (fun w' => (w'.cell? ⟨w.heap.size, 0, none⟩ = some (.int .i64 P) ∧ w'.cell? ⟨w.heap.size, 1, none⟩ = some (.int .i64 Q) ∧ w'.cell? ⟨w.heap.size, 2, none⟩ = some (.int .i64 G)) ∧ (w'.cell? ⟨w.heap.size + 1, 0, none⟩ = some (.slice (some ⟨bc, oc, none⟩) p.c.length c1) ∧ w'.cell? ⟨w.heap.size + 1, 1, none⟩ = some (.slice (some ⟨bh, oh, none⟩) p.h.length c2) ∧ w'.cell? ⟨w.heap.size + 1, 2, none⟩ = some (.slice a3 p.r.length c3))) (first | exact HK4.out _ (Below.refl _ v2).drew | exact HK4.out _ HB3.out | exact HK4.out _ HB4.out) ((first
    | (go_at_call 96; refine (HST.out _ (M1_2.out.below (Below.refl _ v2).drew) (M2_2.out.below (Below.refl _ v2).drew) (C_2.out.below (Below.refl _ v2).drew)).mono ?_; rintro e v3 ⟨rl, rfl, ho, hb⟩; obtain ⟨la, lc, rfl⟩ := ho.toIn.shape; have HB3 := Lib.hid (bt (Below.refl _ v2).drew hb); have HL := Lib.hid ho.toIn; clear hb ho)
    | (go_at_call 95; refine (hChallenge_any P Q G hP0 hQ2 hG0 s hs _ _ _ lst rfl HLL.out (HL.out.ints).2.2.1 HDIG.out _ (HL.out.ints).1).mono ?_; rw [HCHX.out]; rintro e v4 ⟨rfl, hb⟩; have HB4 := Lib.hid (bt HB3.out hb); clear hb)
    | fail))
  all_goals (
    go_wp2_with fail
    clear iF
    generalize hnm : rows.length = n at *
    have HN := Lib.hid hnm
    clear hnm
    have M1_4 := Lib.hid (M1_2.out.below HB4.out)
    have M2_4 := Lib.hid (M2_2.out.below HB4.out)
    have C_4 := Lib.hid (C_2.out.below HB4.out)
    have R_4 := Lib.hid (R_0.out.below (bt HW_2.out HB4.out))
    have HK4' := Lib.hid (show ∀ w', Below v4.heap.size v4 w' → ((w'.cell? ⟨w.heap.size, 0, none⟩ = some (.int .i64 P) ∧ w'.cell? ⟨w.heap.size, 1, none⟩ = some (.int .i64 Q) ∧ w'.cell? ⟨w.heap.size, 2, none⟩ = some (.int .i64 G)) ∧ (w'.cell? ⟨w.heap.size + 1, 0, none⟩ = some (.slice (some ⟨bc, oc, none⟩) p.c.length c1) ∧ w'.cell? ⟨w.heap.size + 1, 1, none⟩ = some (.slice (some ⟨bh, oh, none⟩) p.h.length c2) ∧ w'.cell? ⟨w.heap.size + 1, 2, none⟩ = some (.slice a3 p.r.length c3))) from fun w' hk => HK4.out w' (bt HB4.out hk))
    have HB_4 := Lib.hid (bt HB_2.out HB4.out)
    clear HK4 HKK HK HHC HL HB3 HB4 HW_1 HW_2 HB_2 M1_2 M2_2 C_2 HST HDIG HLL HCHX M1_0 M2_0 C_0 H_0 R_0 X_0 V_0 G_0
    go_loopw [12, 66] (fun _ K wr => ∃ k : Nat, k ≤ n ∧ K = .int .i64 k ∧ r = rowOk P eh p.r (rows.drop k) (p.c.drop k) (im.drop k) ∧ Below v4.heap.size v4 wr) (fun _ K _ => n - (intOf K).toNat))
  case atStart => exact ⟨0, Nat.zero_le _, rfl, HR6.out, Below.refl _ _⟩
  case round =>
    obtain ⟨k, hk, rfl, hrk, hbel⟩ := hrel
    have HRK := Lib.hid hrk
    have HBK := Lib.hid hbel
    have M1_5 := Lib.hid (M1_4.out.below hbel)
    clear hrk hbel
    by_cases hkn : k < n
    · obtain ⟨b', off', az, cz, z, hba, _, hcz, hinz, hdz⟩ := M1_5.out.at (k := k) (by have := HN.out; omega)
      simp only [Option.some.injEq, Addr.mk.injEq, and_true] at hba
      obtain ⟨rfl, rfl⟩ := hba
      obtain ⟨b2, off2, x, hba, _, hcx, hdx⟩ := (C_4.out.below HBK.out).ints.1.at (k := k) (by have := E0.out; omega)
      simp only [Option.some.injEq, Addr.mk.injEq, and_true] at hba
      obtain ⟨rfl, rfl⟩ := hba
      obtain ⟨b3, off3, y, hba, _, hcy, hdy⟩ := (M2_4.out.below HBK.out).ints.1.at (k := k) (by have := HIL.out; have := HN.out; omega)
      simp only [Option.some.injEq, Addr.mk.injEq, and_true] at hba
      obtain ⟨rfl, rfl⟩ := hba
      obtain ⟨hzl, hze⟩ := HROW.out z (List.mem_of_mem_drop (i := k) (by rw [hdz]; simp))
      have hzr : z.length = p.r.length := by rw [hzl, E2.out, HW0.out]
      rw [hzr] at hcz
      have HZR := Lib.hid hzr
      have HZE := Lib.hid (all_rng hze)
      have hxr := HXE.out x (List.mem_of_mem_drop (i := k) (by rw [hdx]; simp))
      have hyr := HYE.out y (List.mem_of_mem_drop (i := k) (by rw [hdy]; simp))
      have hrs := rowOk_step (P := P) (e := eh) (rs := p.r) hdz hdx hdy
      have hyv0 := pow_lt y eh P hPP.1
      obtain ⟨yv, hyv⟩ : ∃ yv, Num.pow y eh P = yv := ⟨_, rfl⟩
      obtain ⟨pr, hpr⟩ : ∃ pr, powsFrom P 1 z p.r = pr := ⟨_, rfl⟩
      rw [hyv] at hrs hyv0
      rw [hpr] at hrs
      obtain ⟨mv, hmv⟩ : ∃ mv, mulFrom P 1 [x, yv] = mv := ⟨_, rfl⟩
      rw [hmv] at hrs
      have HPR := Lib.hid hpr
      have HYV := Lib.hid hyv
      have HMV := Lib.hid hmv
      have HMR := Lib.hid (show ∀ z ∈ [x, yv], 0 ≤ z ∧ z < P from by
        intro z hz
        rcases List.mem_cons.1 hz with rfl | hz
        · exact hxr
        · rw [List.mem_singleton.1 hz]; exact hyv0)
      have HRS := Lib.hid (HRK.out.trans hrs)
      have HZI := Lib.hid hinz.ints
      have HRI := Lib.hid (R_4.out.below HBK.out).ints
      have hkc : (k : Int) < (p.c.length : Int) := by have := E0.out; omega
      have hki : (k : Int) < (im.length : Int) := by have := HIL.out; have := HN.out; omega
      have hk0 : (0 : Int) ≤ (k : Int) := by omega
      have hpl : p.r.length ≤ 24 := by have := E2.out; have := HW0.out; omega
      have HK9 := Lib.hid (show ∀ w', Below wr.heap.size wr w' → ((w'.cell? ⟨w.heap.size, 0, none⟩ = some (.int .i64 P) ∧ w'.cell? ⟨w.heap.size, 1, none⟩ = some (.int .i64 Q) ∧ w'.cell? ⟨w.heap.size, 2, none⟩ = some (.int .i64 G)) ∧ (w'.cell? ⟨w.heap.size + 1, 0, none⟩ = some (.slice (some ⟨bc, oc, none⟩) p.c.length c1) ∧ w'.cell? ⟨w.heap.size + 1, 1, none⟩ = some (.slice (some ⟨bh, oh, none⟩) p.h.length c2) ∧ w'.cell? ⟨w.heap.size + 1, 2, none⟩ = some (.slice a3 p.r.length c3)) ∧ w'.cell? ⟨bc, oc + k, none⟩ = some (.int .i64 x) ∧ w'.cell? ⟨bi, oi + k, none⟩ = some (.int .i64 y)) from fun w' hk => ⟨(HK4'.out w' (bt HBK.out hk)).1, (HK4'.out w' (bt HBK.out hk)).2, C1.below (v := .int .i64 x) hcx hk, C1.below (v := .int .i64 y) hcy hk⟩)
      clear hdz hdx hdy hinz hzl hze hzr hcx hcy hpr hyv hmv hrs
      by_cases hE : ¬ pr = mv
      · have iE : (pr != mv) = true := by simpa using hE
        obtain rfl : r = false := HRS.out.trans (by simp [hE])
        clear hE
        go_wp2_with fail
        go_region_held3 (fun w' => (w'.cell? ⟨w.heap.size, 0, none⟩ = some (.int .i64 P) ∧ w'.cell? ⟨w.heap.size, 1, none⟩ = some (.int .i64 Q) ∧ w'.cell? ⟨w.heap.size, 2, none⟩ = some (.int .i64 G)) ∧ (w'.cell? ⟨w.heap.size + 1, 0, none⟩ = some (.slice (some ⟨bc, oc, none⟩) p.c.length c1) ∧ w'.cell? ⟨w.heap.size + 1, 1, none⟩ = some (.slice (some ⟨bh, oh, none⟩) p.h.length c2) ∧ w'.cell? ⟨w.heap.size + 1, 2, none⟩ = some (.slice a3 p.r.length c3)) ∧ w'.cell? ⟨bc, oc + k, none⟩ = some (.int .i64 x) ∧ w'.cell? ⟨bi, oi + k, none⟩ = some (.int .i64 y)) (first | exact HK9.out _ HBp.out | exact HK9.out _ (bt HBp.out (ba _ _)) | exact HK9.out _ (Below.refl _ wr).drew) ((first
          | (go_at_call 97; refine (gProd_any P Q G _ _ _ _ _ z p.r HZR.out rfl hpl hPP.1 hPP.2 hQ2.1 hQ2.2 HZE.out HRE.out _ (HZI.out.1.below (by first | exact HBp.out | exact (bt HBp.out (ba _ _)) | exact (Below.refl _ wr).drew) (Nat.le_refl _)) (HRI.out.1.below (by first | exact HBp.out | exact (bt HBp.out (ba _ _)) | exact (Below.refl _ wr).drew) (Nat.le_refl _))).mono ?_; rw [HPR.out]; rintro e vp ⟨rfl, hp⟩; (first | (have HLp := Lib.hid (IsInts.below (ints_lit _ [x, yv] 3) hp (Nat.le_refl _))) | skip); have HBp := Lib.hid (show Below wr.heap.size wr vp from by first | exact bt HBp.out hp | exact bt (bt HBp.out (ba _ _)) hp | exact bt (Below.refl _ wr).drew hp); clear hp)
          | (go_at_call 99; refine (gExp_any P Q G y eh (by omega) (by omega) heh.1 heh.2 hPP.1 hPP.2 hQ2.1 hQ2.2 _).mono ?_; rw [HYV.out]; rintro e vp ⟨rfl, hp⟩; have HBp := Lib.hid (show Below wr.heap.size wr vp from by first | exact bt HBp.out hp | exact bt (bt HBp.out (ba _ _)) hp | exact bt (Below.refl _ wr).drew hp); clear hp)
          | (go_at_call 98; refine (gMul_any P Q G _ 2 2 [x, yv] rfl (by decide) hPP.1 hPP.2 HMR.out _ (by first | exact ints_lit _ [x, yv] 3 | exact HLp.out)).mono ?_; rw [HMV.out]; rintro e vp ⟨rfl, hp⟩; have HBp := Lib.hid (show Below wr.heap.size wr vp from by first | exact bt HBp.out hp | exact bt (bt HBp.out (ba _ _)) hp | exact bt (Below.refl _ wr).drew hp); clear hp)
          | fail))
        all_goals (
          go_wp2
          go_ret
          exact ⟨rfl, bt HB_4.out (bt HBK.out HBp.out)⟩)
      · have hE := Decidable.not_not.1 hE
        have iE : (pr != mv) = false := by simpa using hE
        have HRN := Lib.hid (show r = rowOk P eh p.r (rows.drop (k + 1)) (p.c.drop (k + 1)) (im.drop (k + 1)) from HRS.out.trans (by rw [decide_eq_true hE, Bool.true_and]))
        clear hE
        go_wp2_with fail
        go_region_held3 (fun w' => (w'.cell? ⟨w.heap.size, 0, none⟩ = some (.int .i64 P) ∧ w'.cell? ⟨w.heap.size, 1, none⟩ = some (.int .i64 Q) ∧ w'.cell? ⟨w.heap.size, 2, none⟩ = some (.int .i64 G)) ∧ (w'.cell? ⟨w.heap.size + 1, 0, none⟩ = some (.slice (some ⟨bc, oc, none⟩) p.c.length c1) ∧ w'.cell? ⟨w.heap.size + 1, 1, none⟩ = some (.slice (some ⟨bh, oh, none⟩) p.h.length c2) ∧ w'.cell? ⟨w.heap.size + 1, 2, none⟩ = some (.slice a3 p.r.length c3)) ∧ w'.cell? ⟨bc, oc + k, none⟩ = some (.int .i64 x) ∧ w'.cell? ⟨bi, oi + k, none⟩ = some (.int .i64 y)) (first | exact HK9.out _ HBp.out | exact HK9.out _ (bt HBp.out (ba _ _)) | exact HK9.out _ (Below.refl _ wr).drew) ((first
          | (go_at_call 97; refine (gProd_any P Q G _ _ _ _ _ z p.r HZR.out rfl hpl hPP.1 hPP.2 hQ2.1 hQ2.2 HZE.out HRE.out _ (HZI.out.1.below (by first | exact HBp.out | exact (bt HBp.out (ba _ _)) | exact (Below.refl _ wr).drew) (Nat.le_refl _)) (HRI.out.1.below (by first | exact HBp.out | exact (bt HBp.out (ba _ _)) | exact (Below.refl _ wr).drew) (Nat.le_refl _))).mono ?_; rw [HPR.out]; rintro e vp ⟨rfl, hp⟩; (first | (have HLp := Lib.hid (IsInts.below (ints_lit _ [x, yv] 3) hp (Nat.le_refl _))) | skip); have HBp := Lib.hid (show Below wr.heap.size wr vp from by first | exact bt HBp.out hp | exact bt (bt HBp.out (ba _ _)) hp | exact bt (Below.refl _ wr).drew hp); clear hp)
          | (go_at_call 99; refine (gExp_any P Q G y eh (by omega) (by omega) heh.1 heh.2 hPP.1 hPP.2 hQ2.1 hQ2.2 _).mono ?_; rw [HYV.out]; rintro e vp ⟨rfl, hp⟩; have HBp := Lib.hid (show Below wr.heap.size wr vp from by first | exact bt HBp.out hp | exact bt (bt HBp.out (ba _ _)) hp | exact bt (Below.refl _ wr).drew hp); clear hp)
          | (go_at_call 98; refine (gMul_any P Q G _ 2 2 [x, yv] rfl (by decide) hPP.1 hPP.2 HMR.out _ (by first | exact ints_lit _ [x, yv] 3 | exact HLp.out)).mono ?_; rw [HMV.out]; rintro e vp ⟨rfl, hp⟩; have HBp := Lib.hid (show Below wr.heap.size wr vp from by first | exact bt HBp.out hp | exact bt (bt HBp.out (ba _ _)) hp | exact bt (Below.refl _ wr).drew hp); clear hp)
          | fail))
        all_goals (
          go_wp2_with fail
          go_roundw
          case rel => exact ⟨k + 1, by omega, by go_num, HRN.out, bt HBK.out HBp.out⟩
          case measure => simp only [intOf]; omega)
    · obtain rfl : r = true := HRK.out.trans (rowOk_end (by have := HN.out; omega))
      go_wp2
      go_ret
      exact ⟨rfl, bt HB_4.out HBK.out⟩

end Go.Proofs.Ytdaekpfngphefaa

/- Sigma proofs: VerifyLinear, VerifyKnowledge, VerifyEqual of both. -/
namespace Go.Proofs.Ytdaekpfngphefaa
open Go.RowKit
set_option linter.unusedVariables false
set_option linter.unusedSimpArgs false

theorem vrB_eq (P Q G : Int) (s : ByteArray) (st : St) : vrB P Q G s st = ((goodB P Q G && decide (s.size ≤ 40)) && st.ok P Q) := by simp [vrB, Bool.and_assoc]
theorem vrV_off {P Q G : Int} {s : ByteArray} {st : St} {p : PrD} (h : vrB P Q G s st = false) : vrV P Q G s st p = false := by simp [vrV, h]
theorem ok_eq (P Q a b c d : Int) : (St.lin [[a], [c]] [b, d]).ok P Q = allEl P Q [a, b, c, d] := by
  have h1 : rowsB P Q [[a], [c]] = (allEl P Q [a] && allEl P Q [c]) := by simp [rowsB, rowB, wid, inB]
  simp only [St.ok, h1, allEl, List.all_cons, List.all_nil, Bool.and_true, List.length_cons, List.length_nil, decide_true, Bool.true_and]
  generalize elB P Q a = x
  generalize elB P Q b = y
  generalize elB P Q c = z
  generalize elB P Q d = t
  cases x <;> cases y <;> cases z <;> cases t <;> rfl
theorem one_new (w : World) (v : Value) (t : TypeId) : C1 (w.alloc (.cells #[v] t)) w.heap.size 0 v := by
  unfold C1; rw [World.cell?_alloc_at _ _ _ _ rfl]; rfl
theorem one_row {w : World} {p r : Nat} {a : Int} (h1 : C1 w r 0 (.slice (some ⟨p, 0, none⟩) 1 1)) (h2 : C1 w p 0 (.int .i64 a)) : InS w.heap.size w (.slice (some ⟨r, 0, none⟩) 1 1) [[a]] :=
  ⟨Nat.le_refl _, _, _, rfl, (fun h => by cases h), .inr ⟨r, 0, rfl, World.block_lt_of_cell? w _ h1, World.block_lt_of_cell? w _ h1, fun i z hz => by
    match i, hz with
    | 0, hz => simp at hz; subst hz; exact ⟨_, h1, one_in h2⟩⟩⟩
/-- {{a}}, then {y}: three literals laid one behind another. -/
theorem know_lit (W : World) (a y : Int) (t1 t2 t3 : TypeId) :
    InS (((W.alloc (.cells #[.int .i64 a] t1)).alloc (.cells #[.slice (some ⟨W.heap.size, 0, none⟩) 1 1] t2)).alloc (.cells #[.int .i64 y] t3)).heap.size (((W.alloc (.cells #[.int .i64 a] t1)).alloc (.cells #[.slice (some ⟨W.heap.size, 0, none⟩) 1 1] t2)).alloc (.cells #[.int .i64 y] t3)) (.slice (some ⟨W.heap.size + 1, 0, none⟩) 1 1) [[a]] ∧
    InI (((W.alloc (.cells #[.int .i64 a] t1)).alloc (.cells #[.slice (some ⟨W.heap.size, 0, none⟩) 1 1] t2)).alloc (.cells #[.int .i64 y] t3)).heap.size (((W.alloc (.cells #[.int .i64 a] t1)).alloc (.cells #[.slice (some ⟨W.heap.size, 0, none⟩) 1 1] t2)).alloc (.cells #[.int .i64 y] t3)) (.slice (some ⟨W.heap.size + 2, 0, none⟩) 1 1) [y] := by
  have e1 := one_new W (.int .i64 a) t1
  have e2 := one_new (W.alloc (.cells #[.int .i64 a] t1)) (.slice (some ⟨W.heap.size, 0, none⟩) 1 1) t2
  have e3 := one_new ((W.alloc (.cells #[.int .i64 a] t1)).alloc (.cells #[.slice (some ⟨W.heap.size, 0, none⟩) 1 1] t2)) (.int .i64 y) t3
  rw [show (W.alloc (.cells #[.int .i64 a] t1)).heap.size = W.heap.size + 1 by simp] at e2
  rw [show ((W.alloc (.cells #[.int .i64 a] t1)).alloc (.cells #[.slice (some ⟨W.heap.size, 0, none⟩) 1 1] t2)).heap.size = W.heap.size + 2 by simp] at e3
  exact ⟨one_row (e2.below (ba _ _)) (e1.below (bt (ba _ _) (ba _ _))), one_in e3⟩
set_option maxRecDepth 100000 in
set_option maxHeartbeats 3200000 in
theorem sVerifyLinear_any (P Q G : Int) (s : ByteArray) (hs : s.size ≤ 1048576) {B1 B2 : Nat} {u1 u2 : Value} {rows : List (List Int)} {im : List Int} (hl : rows.length ≤ 1048576) (hr : ∀ z ∈ rows, z.length ≤ 17592186044416) (hi8 : im.length ≤ 17592186044416) {B : Nat} {v : Value} {p : PrD} (hpn : p.n ≤ 1048576) {w : World} (hu1 : InS B1 w u1 rows) (hu2 : InI B2 w u2 im) (hP : InP B w v p) :
    Calls Try.prog 17 #[gv P Q G, .string s, u1, u2, v] w (EqOut (.tuple #[.bool (vrV P Q G s (St.lin rows im) p), .bool (vrB P Q G s (St.lin rows im))]) w) := by
  obtain ⟨y1, y2, rfl⟩ := hu1.shape
  obtain ⟨z1, z2, rfl⟩ := hu2.shape
  obtain ⟨a1, c1, a2, c2, a3, c3, rfl, _, _, _⟩ := hP.parts
  have hal := ba (w.alloc (.cells #[.int .i64 P, .int .i64 Q, .int .i64 G] 32)) (.cells #[.slice a1 p.c.length c1, .slice a2 p.h.length c2, .slice a3 p.r.length c3] 36)
  have HB_0 := Lib.hid (bt (ba w (.cells #[.int .i64 P, .int .i64 Q, .int .i64 G] 32)) hal)
  have G_0 := Lib.hid (GR.below (gr_new w P Q G 32) hal)
  have hv := b3_new (w.alloc (.cells #[.int .i64 P, .int .i64 Q, .int .i64 G] 32)) (.slice a1 p.c.length c1) (.slice a2 p.h.length c2) (.slice a3 p.r.length c3) 36
  rw [show (w.alloc (.cells #[.int .i64 P, .int .i64 Q, .int .i64 G] 32)).heap.size = w.heap.size + 1 by simp] at hv
  have V_0 := Lib.hid hv
  have P_0 := Lib.hid (hP.below HB_0.out)
  clear hal hv hP
  have M_0 := Lib.hid (hu1.below HB_0.out)
  have N_0 := Lib.hid (hu2.below HB_0.out)
  have HRL := Lib.hid hr
  clear hu1 hu2 hr
  cases h0 : (goodB P Q G && decide (s.size ≤ 40))
  · have K0 := Lib.hid (show (goodB P Q G && decide (s.size ≤ 40)) = false from h0)
    have E1 := Lib.hid (show vrB P Q G s (St.lin rows im) = false from by rw [vrB_eq, h0]; rfl)
    have E2 := Lib.hid (vrV_off (p := p) E1.out)
    rw [E1.out, E2.out]
    clear h0
    obtain ⟨gG0, gG1, gG2⟩ := G_0.out
    obtain ⟨bV0, bV1, bV2, _⟩ := V_0.out
    go_enter Try.func17, Try.ntmps17
    go_wp2_with fail
    refine (sLabel_any P Q G s hs _).mono ?_
    rw [K0.out]
    rintro e v1 ⟨rfl, hb⟩
    have HB_1 := Lib.hid (bt HB_0.out hb)
    have G_1 := Lib.hid (G_0.out.below hb)
    have V_1 := Lib.hid (V_0.out.below hb)
    have M_1 := Lib.hid (M_0.out.below hb)
    have N_1 := Lib.hid (N_0.out.below hb)
    have P_1 := Lib.hid (P_0.out.below hb)
    clear hb gG0 gG1 gG2 bV0 bV1 bV2
    obtain ⟨gG0, gG1, gG2⟩ := G_1.out
    obtain ⟨bV0, bV1, bV2, _⟩ := V_1.out
    go_wp2
    go_ret2
    exact ⟨rfl, HB_1.out⟩
  have K0 := Lib.hid (show (goodB P Q G && decide (s.size ≤ 40)) = true from h0)
  have HGd := Lib.hid (show goodB P Q G = true from ((Bool.and_eq_true _ _).mp h0).1)
  have hs40 : s.size ≤ 1000000 := by have := of_decide_eq_true ((Bool.and_eq_true _ _).mp h0).2; omega
  cases h1 : rowsB P Q rows
  · have K1 := Lib.hid (show rowsB P Q rows = false from h1)
    have E1 := Lib.hid (show vrB P Q G s (St.lin rows im) = false from by rw [vrB_eq, h0]; simp [St.ok, h1])
    have E2 := Lib.hid (vrV_off (p := p) E1.out)
    rw [E1.out, E2.out]
    clear h0 h1
    obtain ⟨gG0, gG1, gG2⟩ := G_0.out
    obtain ⟨bV0, bV1, bV2, _⟩ := V_0.out
    go_enter Try.func17, Try.ntmps17
    go_wp2_with fail
    refine (sLabel_any P Q G s hs _).mono ?_
    rw [K0.out]
    rintro e v1 ⟨rfl, hb⟩
    have HB_1 := Lib.hid (bt HB_0.out hb)
    have G_1 := Lib.hid (G_0.out.below hb)
    have V_1 := Lib.hid (V_0.out.below hb)
    have M_1 := Lib.hid (M_0.out.below hb)
    have N_1 := Lib.hid (N_0.out.below hb)
    have P_1 := Lib.hid (P_0.out.below hb)
    clear hb gG0 gG1 gG2 bV0 bV1 bV2
    obtain ⟨gG0, gG1, gG2⟩ := G_1.out
    obtain ⟨bV0, bV1, bV2, _⟩ := V_1.out
    go_wp2_with fail
    refine (sBases_any P Q G (good_mo HGd.out) hl HRL.out M_1.out).mono ?_
    rw [K1.out]
    rintro e v2 ⟨rfl, hb⟩
    have HB_2 := Lib.hid (bt HB_1.out hb)
    have G_2 := Lib.hid (G_1.out.below hb)
    have V_2 := Lib.hid (V_1.out.below hb)
    have M_2 := Lib.hid (M_1.out.below hb)
    have N_2 := Lib.hid (N_1.out.below hb)
    have P_2 := Lib.hid (P_1.out.below hb)
    clear hb gG0 gG1 gG2 bV0 bV1 bV2
    obtain ⟨gG0, gG1, gG2⟩ := G_2.out
    obtain ⟨bV0, bV1, bV2, _⟩ := V_2.out
    go_wp2
    go_ret2
    exact ⟨rfl, HB_2.out⟩
  have K1 := Lib.hid (show rowsB P Q rows = true from h1)
  by_cases h2 : ¬ (im.length = rows.length)
  · have B2 : ((im.length : Int) != (rows.length : Int)) = true := by simp; omega
    have E1 := Lib.hid (show vrB P Q G s (St.lin rows im) = false from by rw [vrB_eq, h0]; simp [St.ok, h1, h2])
    have E2 := Lib.hid (vrV_off (p := p) E1.out)
    rw [E1.out, E2.out]
    clear h0 h1 h2
    obtain ⟨gG0, gG1, gG2⟩ := G_0.out
    obtain ⟨bV0, bV1, bV2, _⟩ := V_0.out
    go_enter Try.func17, Try.ntmps17
    go_wp2_with fail
    refine (sLabel_any P Q G s hs _).mono ?_
    rw [K0.out]
    rintro e v1 ⟨rfl, hb⟩
    have HB_1 := Lib.hid (bt HB_0.out hb)
    have G_1 := Lib.hid (G_0.out.below hb)
    have V_1 := Lib.hid (V_0.out.below hb)
    have M_1 := Lib.hid (M_0.out.below hb)
    have N_1 := Lib.hid (N_0.out.below hb)
    have P_1 := Lib.hid (P_0.out.below hb)
    clear hb gG0 gG1 gG2 bV0 bV1 bV2
    obtain ⟨gG0, gG1, gG2⟩ := G_1.out
    obtain ⟨bV0, bV1, bV2, _⟩ := V_1.out
    go_wp2_with fail
    refine (sBases_any P Q G (good_mo HGd.out) hl HRL.out M_1.out).mono ?_
    rw [K1.out]
    rintro e v2 ⟨rfl, hb⟩
    have HB_2 := Lib.hid (bt HB_1.out hb)
    have G_2 := Lib.hid (G_1.out.below hb)
    have V_2 := Lib.hid (V_1.out.below hb)
    have M_2 := Lib.hid (M_1.out.below hb)
    have N_2 := Lib.hid (N_1.out.below hb)
    have P_2 := Lib.hid (P_1.out.below hb)
    clear hb gG0 gG1 gG2 bV0 bV1 bV2
    obtain ⟨gG0, gG1, gG2⟩ := G_2.out
    obtain ⟨bV0, bV1, bV2, _⟩ := V_2.out
    go_wp2
    go_ret2
    exact ⟨rfl, HB_2.out⟩
  have h2 := Decidable.not_not.1 h2
  have B2 : ((im.length : Int) != (rows.length : Int)) = false := by simp [h2]
  cases h3 : allEl P Q im
  · have K3 := Lib.hid (show allEl P Q im = false from h3)
    have E1 := Lib.hid (show vrB P Q G s (St.lin rows im) = false from by rw [vrB_eq, h0]; simp [St.ok, h1, h2, h3])
    have E2 := Lib.hid (vrV_off (p := p) E1.out)
    rw [E1.out, E2.out]
    clear h0 h1 h2 h3
    obtain ⟨gG0, gG1, gG2⟩ := G_0.out
    obtain ⟨bV0, bV1, bV2, _⟩ := V_0.out
    go_enter Try.func17, Try.ntmps17
    go_wp2_with fail
    refine (sLabel_any P Q G s hs _).mono ?_
    rw [K0.out]
    rintro e v1 ⟨rfl, hb⟩
    have HB_1 := Lib.hid (bt HB_0.out hb)
    have G_1 := Lib.hid (G_0.out.below hb)
    have V_1 := Lib.hid (V_0.out.below hb)
    have M_1 := Lib.hid (M_0.out.below hb)
    have N_1 := Lib.hid (N_0.out.below hb)
    have P_1 := Lib.hid (P_0.out.below hb)
    clear hb gG0 gG1 gG2 bV0 bV1 bV2
    obtain ⟨gG0, gG1, gG2⟩ := G_1.out
    obtain ⟨bV0, bV1, bV2, _⟩ := V_1.out
    go_wp2_with fail
    refine (sBases_any P Q G (good_mo HGd.out) hl HRL.out M_1.out).mono ?_
    rw [K1.out]
    rintro e v2 ⟨rfl, hb⟩
    have HB_2 := Lib.hid (bt HB_1.out hb)
    have G_2 := Lib.hid (G_1.out.below hb)
    have V_2 := Lib.hid (V_1.out.below hb)
    have M_2 := Lib.hid (M_1.out.below hb)
    have N_2 := Lib.hid (N_1.out.below hb)
    have P_2 := Lib.hid (P_1.out.below hb)
    clear hb gG0 gG1 gG2 bV0 bV1 bV2
    obtain ⟨gG0, gG1, gG2⟩ := G_2.out
    obtain ⟨bV0, bV1, bV2, _⟩ := V_2.out
    go_wp2_with fail
    refine (gIs_any P Q G (good_mo HGd.out) _ _ _ im rfl (by omega) _ (N_2.out.ints).1).mono ?_
    rw [K3.out]
    rintro e v3 ⟨rfl, hb⟩
    have HB_3 := Lib.hid (bt HB_2.out hb)
    have G_3 := Lib.hid (G_2.out.below hb)
    have V_3 := Lib.hid (V_2.out.below hb)
    have M_3 := Lib.hid (M_2.out.below hb)
    have N_3 := Lib.hid (N_2.out.below hb)
    have P_3 := Lib.hid (P_2.out.below hb)
    clear hb gG0 gG1 gG2 bV0 bV1 bV2
    obtain ⟨gG0, gG1, gG2⟩ := G_3.out
    obtain ⟨bV0, bV1, bV2, _⟩ := V_3.out
    go_wp2
    go_ret2
    exact ⟨rfl, HB_3.out⟩
  have K3 := Lib.hid (show allEl P Q im = true from h3)
  have hvb : vrB P Q G s (St.lin rows im) = true := by rw [vrB_eq, h0]; simp [St.ok, h1, h2, h3]
  have E1 := Lib.hid hvb
  have E2 := Lib.hid (vr_lin (p := p) hvb)
  rw [E1.out, E2.out]
  have K1b := Lib.hid h1
  have K2b := Lib.hid h2
  have K3b := Lib.hid h3
  clear hvb h0 h1 h2 h3
  obtain ⟨gG0, gG1, gG2⟩ := G_0.out
  obtain ⟨bV0, bV1, bV2, _⟩ := V_0.out
  go_enter Try.func17, Try.ntmps17
  go_wp2_with fail
  refine (sLabel_any P Q G s hs _).mono ?_
  rw [K0.out]
  rintro e v1 ⟨rfl, hb⟩
  have HB_1 := Lib.hid (bt HB_0.out hb)
  have G_1 := Lib.hid (G_0.out.below hb)
  have V_1 := Lib.hid (V_0.out.below hb)
  have M_1 := Lib.hid (M_0.out.below hb)
  have N_1 := Lib.hid (N_0.out.below hb)
  have P_1 := Lib.hid (P_0.out.below hb)
  clear hb gG0 gG1 gG2 bV0 bV1 bV2
  obtain ⟨gG0, gG1, gG2⟩ := G_1.out
  obtain ⟨bV0, bV1, bV2, _⟩ := V_1.out
  go_wp2_with fail
  refine (sBases_any P Q G (good_mo HGd.out) hl HRL.out M_1.out).mono ?_
  rw [K1.out]
  rintro e v2 ⟨rfl, hb⟩
  have HB_2 := Lib.hid (bt HB_1.out hb)
  have G_2 := Lib.hid (G_1.out.below hb)
  have V_2 := Lib.hid (V_1.out.below hb)
  have M_2 := Lib.hid (M_1.out.below hb)
  have N_2 := Lib.hid (N_1.out.below hb)
  have P_2 := Lib.hid (P_1.out.below hb)
  clear hb gG0 gG1 gG2 bV0 bV1 bV2
  obtain ⟨gG0, gG1, gG2⟩ := G_2.out
  obtain ⟨bV0, bV1, bV2, _⟩ := V_2.out
  go_wp2_with fail
  refine (gIs_any P Q G (good_mo HGd.out) _ _ _ im rfl (by omega) _ (N_2.out.ints).1).mono ?_
  rw [K3.out]
  rintro e v3 ⟨rfl, hb⟩
  have HB_3 := Lib.hid (bt HB_2.out hb)
  have G_3 := Lib.hid (G_2.out.below hb)
  have V_3 := Lib.hid (V_2.out.below hb)
  have M_3 := Lib.hid (M_2.out.below hb)
  have N_3 := Lib.hid (N_2.out.below hb)
  have P_3 := Lib.hid (P_2.out.below hb)
  clear hb gG0 gG1 gG2 bV0 bV1 bV2
  obtain ⟨gG0, gG1, gG2⟩ := G_3.out
  obtain ⟨bV0, bV1, bV2, _⟩ := V_3.out
  go_wp2_with fail
  refine (sVerify_any P Q G HGd.out s hs40 K1b.out K2b.out K3b.out hpn M_3.out N_3.out P_3.out).mono ?_
  rintro e v9 ⟨rfl, hb⟩
  have HB_9 := Lib.hid (bt HB_3.out hb)
  clear hb
  go_wp2
  go_ret2
  exact ⟨rfl, HB_9.out⟩

set_option maxRecDepth 100000 in
set_option maxHeartbeats 3200000 in
theorem verifyLinear_any (P Q G : Int) (s : ByteArray) (hs : s.size ≤ 1048576) {B1 B2 : Nat} {u1 u2 : Value} {rows : List (List Int)} {im : List Int} (hl : rows.length ≤ 1048576) (hr : ∀ z ∈ rows, z.length ≤ 17592186044416) (hi8 : im.length ≤ 17592186044416) {B : Nat} {v : Value} {p : PrD} (hpn : p.n ≤ 1048576) {w : World} (hu1 : InS B1 w u1 rows) (hu2 : InI B2 w u2 im) (hP : InP B w v p) :
    Calls Try.prog 22 #[gv P Q G, .string s, u1, u2, v] w (EqOut (.tuple #[.bool (vrV P Q G s (St.lin rows im) p), .bool (vrB P Q G s (St.lin rows im))]) w) := by
  obtain ⟨y1, y2, rfl⟩ := hu1.shape
  obtain ⟨z1, z2, rfl⟩ := hu2.shape
  obtain ⟨a1, c1, a2, c2, a3, c3, rfl, _, _, _⟩ := hP.parts
  have hal := ba (w.alloc (.cells #[.int .i64 P, .int .i64 Q, .int .i64 G] 32)) (.cells #[.slice a1 p.c.length c1, .slice a2 p.h.length c2, .slice a3 p.r.length c3] 36)
  have HB_0 := Lib.hid (bt (ba w (.cells #[.int .i64 P, .int .i64 Q, .int .i64 G] 32)) hal)
  have G_0 := Lib.hid (GR.below (gr_new w P Q G 32) hal)
  have hv := b3_new (w.alloc (.cells #[.int .i64 P, .int .i64 Q, .int .i64 G] 32)) (.slice a1 p.c.length c1) (.slice a2 p.h.length c2) (.slice a3 p.r.length c3) 36
  rw [show (w.alloc (.cells #[.int .i64 P, .int .i64 Q, .int .i64 G] 32)).heap.size = w.heap.size + 1 by simp] at hv
  have V_0 := Lib.hid hv
  have P_0 := Lib.hid (hP.below HB_0.out)
  clear hal hv hP
  have M_0 := Lib.hid (hu1.below HB_0.out)
  have N_0 := Lib.hid (hu2.below HB_0.out)
  have HRL := Lib.hid hr
  clear hu1 hu2 hr
  obtain ⟨gG0, gG1, gG2⟩ := G_0.out
  obtain ⟨bV0, bV1, bV2, _⟩ := V_0.out
  go_enter Try.func22, Try.ntmps22
  go_wp2_with fail
  refine (verifyLin_any P Q G s hs hl HRL.out hi8 hpn M_0.out N_0.out P_0.out).mono ?_
  rintro e v9 ⟨rfl, hb⟩
  have HB_9 := Lib.hid (bt HB_0.out hb)
  clear hb
  go_wp2
  go_ret2
  exact ⟨rfl, HB_9.out⟩

set_option maxRecDepth 100000 in
set_option maxHeartbeats 3200000 in
theorem sVerifyKnowledge_any (P Q G a y : Int) (s : ByteArray) (hs : s.size ≤ 1048576) {B : Nat} {v : Value} {p : PrD} (hpn : p.n ≤ 1048576) {w : World} (hP : InP B w v p) :
    Calls Try.prog 26 #[gv P Q G, .string s, .int .i64 a, .int .i64 y, v] w (EqOut (.tuple #[.bool (vrV P Q G s (St.lin [[a]] [y]) p), .bool (vrB P Q G s (St.lin [[a]] [y]))]) w) := by
  obtain ⟨a1, c1, a2, c2, a3, c3, rfl, _, _, _⟩ := hP.parts
  have hal := ba (w.alloc (.cells #[.int .i64 P, .int .i64 Q, .int .i64 G] 32)) (.cells #[.slice a1 p.c.length c1, .slice a2 p.h.length c2, .slice a3 p.r.length c3] 36)
  have HB_0 := Lib.hid (bt (ba w (.cells #[.int .i64 P, .int .i64 Q, .int .i64 G] 32)) hal)
  have G_0 := Lib.hid (GR.below (gr_new w P Q G 32) hal)
  have hv := b3_new (w.alloc (.cells #[.int .i64 P, .int .i64 Q, .int .i64 G] 32)) (.slice a1 p.c.length c1) (.slice a2 p.h.length c2) (.slice a3 p.r.length c3) 36
  rw [show (w.alloc (.cells #[.int .i64 P, .int .i64 Q, .int .i64 G] 32)).heap.size = w.heap.size + 1 by simp] at hv
  have V_0 := Lib.hid hv
  have P_0 := Lib.hid (hP.below HB_0.out)
  clear hal hv hP
  generalize hrs : ([[a]] : List (List Int)) = rs
  generalize his : ([y] : List Int) = is
  have HRS := Lib.hid hrs
  have HIS := Lib.hid his
  clear hrs his
  have hl : rs.length ≤ 1048576 := by rw [← HRS.out]; simp
  have hi8 : is.length ≤ 17592186044416 := by rw [← HIS.out]; simp
  have HRL := Lib.hid (show ∀ z ∈ rs, z.length ≤ 17592186044416 from by rw [← HRS.out]; intro z hz; rw [List.mem_singleton.1 hz]; simp)
  go_enter Try.func26, Try.ntmps26
  generalize hW : (w.alloc (.cells #[.int .i64 P, .int .i64 Q, .int .i64 G] 32)).alloc (.cells #[.slice a1 p.c.length c1, .slice a2 p.h.length c2, .slice a3 p.r.length c3] 36) = W at *
  have hp3 := Lib.hid (P_0.out.below (bt (bt (ba W (.cells #[.int .i64 a] 3)) (ba _ (.cells #[.slice (some ⟨W.heap.size, 0, none⟩) 1 1] 25))) (ba _ (.cells #[.int .i64 y] 3))))
  have HB3 := Lib.hid (bt HB_0.out (bt (bt (ba W (.cells #[.int .i64 a] 3)) (ba _ (.cells #[.slice (some ⟨W.heap.size, 0, none⟩) 1 1] 25))) (ba _ (.cells #[.int .i64 y] 3))))
  have hk := know_lit W a y 3 25 3
  rw [HRS.out, HIS.out] at hk
  have HKL := Lib.hid hk
  clear hk
  obtain ⟨gG0, gG1, gG2⟩ := G_0.out
  obtain ⟨bV0, bV1, bV2, _⟩ := V_0.out.below (bt (bt (ba W (.cells #[.int .i64 a] 3)) (ba _ (.cells #[.slice (some ⟨W.heap.size, 0, none⟩) 1 1] 25))) (ba _ (.cells #[.int .i64 y] 3)))
  go_wp2_with fail
  refine (sVerifyLinear_any P Q G s hs hl HRL.out hi8 hpn HKL.out.1 HKL.out.2 hp3.out).mono ?_
  rintro e v9 ⟨rfl, hb⟩
  have HB_9 := Lib.hid (bt HB3.out hb)
  clear hb
  go_wp2
  go_ret2
  exact ⟨rfl, HB_9.out⟩

set_option maxRecDepth 100000 in
set_option maxHeartbeats 3200000 in
theorem verifyKnowledge_any (P Q G a y : Int) (s : ByteArray) (hs : s.size ≤ 1048576) {B : Nat} {v : Value} {p : PrD} (hpn : p.n ≤ 1048576) {w : World} (hP : InP B w v p) :
    Calls Try.prog 27 #[gv P Q G, .string s, .int .i64 a, .int .i64 y, v] w (EqOut (.tuple #[.bool (vrV P Q G s (St.lin [[a]] [y]) p), .bool (vrB P Q G s (St.lin [[a]] [y]))]) w) := by
  obtain ⟨a1, c1, a2, c2, a3, c3, rfl, _, _, _⟩ := hP.parts
  have hal := ba (w.alloc (.cells #[.int .i64 P, .int .i64 Q, .int .i64 G] 32)) (.cells #[.slice a1 p.c.length c1, .slice a2 p.h.length c2, .slice a3 p.r.length c3] 36)
  have HB_0 := Lib.hid (bt (ba w (.cells #[.int .i64 P, .int .i64 Q, .int .i64 G] 32)) hal)
  have G_0 := Lib.hid (GR.below (gr_new w P Q G 32) hal)
  have hv := b3_new (w.alloc (.cells #[.int .i64 P, .int .i64 Q, .int .i64 G] 32)) (.slice a1 p.c.length c1) (.slice a2 p.h.length c2) (.slice a3 p.r.length c3) 36
  rw [show (w.alloc (.cells #[.int .i64 P, .int .i64 Q, .int .i64 G] 32)).heap.size = w.heap.size + 1 by simp] at hv
  have V_0 := Lib.hid hv
  have P_0 := Lib.hid (hP.below HB_0.out)
  clear hal hv hP
  generalize hrs : ([[a]] : List (List Int)) = rs
  generalize his : ([y] : List Int) = is
  have HRS := Lib.hid hrs
  have HIS := Lib.hid his
  clear hrs his
  have hl : rs.length ≤ 1048576 := by rw [← HRS.out]; simp
  have hi8 : is.length ≤ 17592186044416 := by rw [← HIS.out]; simp
  have HRL := Lib.hid (show ∀ z ∈ rs, z.length ≤ 17592186044416 from by rw [← HRS.out]; intro z hz; rw [List.mem_singleton.1 hz]; simp)
  go_enter Try.func27, Try.ntmps27
  generalize hW : (w.alloc (.cells #[.int .i64 P, .int .i64 Q, .int .i64 G] 32)).alloc (.cells #[.slice a1 p.c.length c1, .slice a2 p.h.length c2, .slice a3 p.r.length c3] 36) = W at *
  have hp3 := Lib.hid (P_0.out.below (bt (bt (ba W (.cells #[.int .i64 a] 3)) (ba _ (.cells #[.slice (some ⟨W.heap.size, 0, none⟩) 1 1] 25))) (ba _ (.cells #[.int .i64 y] 3))))
  have HB3 := Lib.hid (bt HB_0.out (bt (bt (ba W (.cells #[.int .i64 a] 3)) (ba _ (.cells #[.slice (some ⟨W.heap.size, 0, none⟩) 1 1] 25))) (ba _ (.cells #[.int .i64 y] 3))))
  have hk := know_lit W a y 3 25 3
  rw [HRS.out, HIS.out] at hk
  have HKL := Lib.hid hk
  clear hk
  obtain ⟨gG0, gG1, gG2⟩ := G_0.out
  obtain ⟨bV0, bV1, bV2, _⟩ := V_0.out.below (bt (bt (ba W (.cells #[.int .i64 a] 3)) (ba _ (.cells #[.slice (some ⟨W.heap.size, 0, none⟩) 1 1] 25))) (ba _ (.cells #[.int .i64 y] 3)))
  go_wp2_with fail
  refine (verifyLinear_any P Q G s hs hl HRL.out hi8 hpn HKL.out.1 HKL.out.2 hp3.out).mono ?_
  rintro e v9 ⟨rfl, hb⟩
  have HB_9 := Lib.hid (bt HB3.out hb)
  clear hb
  go_wp2
  go_ret2
  exact ⟨rfl, HB_9.out⟩

/-- {{a}, {c}}, then {b, d}: four literals laid one behind another. -/
theorem eq_lit (W : World) (a b c d : Int) (t1 t2 t3 t4 : TypeId) (W4 : World) (h : W4 = (((W.alloc (.cells #[.int .i64 a] t1)).alloc (.cells #[.int .i64 c] t2)).alloc (.cells #[.slice (some ⟨W.heap.size, 0, none⟩) 1 1, .slice (some ⟨W.heap.size + 1, 0, none⟩) 1 1] t3)).alloc (.cells #[.int .i64 b, .int .i64 d] t4)) :
    InS W4.heap.size W4 (.slice (some ⟨W.heap.size + 2, 0, none⟩) 2 2) [[a], [c]] ∧ InI W4.heap.size W4 (.slice (some ⟨W.heap.size + 3, 0, none⟩) 2 2) [b, d] ∧ Below W.heap.size W W4 := by
  have e1 := one_new W (.int .i64 a) t1
  have e2 := one_new (W.alloc (.cells #[.int .i64 a] t1)) (.int .i64 c) t2
  have e3 := v2_new ((W.alloc (.cells #[.int .i64 a] t1)).alloc (.cells #[.int .i64 c] t2)) (.slice (some ⟨W.heap.size, 0, none⟩) 1 1) (.slice (some ⟨W.heap.size + 1, 0, none⟩) 1 1) t3
  have e4 := v2_new (((W.alloc (.cells #[.int .i64 a] t1)).alloc (.cells #[.int .i64 c] t2)).alloc (.cells #[.slice (some ⟨W.heap.size, 0, none⟩) 1 1, .slice (some ⟨W.heap.size + 1, 0, none⟩) 1 1] t3)) (.int .i64 b) (.int .i64 d) t4
  rw [show (W.alloc (.cells #[.int .i64 a] t1)).heap.size = W.heap.size + 1 by simp] at e2
  rw [show ((W.alloc (.cells #[.int .i64 a] t1)).alloc (.cells #[.int .i64 c] t2)).heap.size = W.heap.size + 2 by simp] at e3
  rw [show (((W.alloc (.cells #[.int .i64 a] t1)).alloc (.cells #[.int .i64 c] t2)).alloc (.cells #[.slice (some ⟨W.heap.size, 0, none⟩) 1 1, .slice (some ⟨W.heap.size + 1, 0, none⟩) 1 1] t3)).heap.size = W.heap.size + 3 by simp] at e4
  have hr : Rw4 0 W4 (.agg #[.slice (some ⟨W.heap.size + 2, 0, none⟩) 2 2, .slice (some ⟨W.heap.size + 3, 0, none⟩) 2 2]) a b c d := by
    rw [h]
    exact ⟨_, _, _, _, rfl, ⟨Nat.zero_le _, Nat.zero_le _, Nat.zero_le _, Nat.zero_le _⟩, e3.below (ba _ _), ⟨e1.below (bt (bt (ba _ _) (ba _ _)) (ba _ _)), e2.below (bt (ba _ _) (ba _ _))⟩, e4.1, e4.2⟩
  refine ⟨hr.ins.1, hr.ins.2, ?_⟩
  rw [h]
  exact bt (bt (bt (ba _ _) (ba _ _)) (ba _ _)) (ba _ _)
set_option maxRecDepth 100000 in
set_option maxHeartbeats 3200000 in
theorem sVerifyEq_any (P Q G a b c d : Int) (hg : goodB P Q G = true) (s : ByteArray) (hs : s.size ≤ 1000000) (hel : allEl P Q [a, b, c, d] = true) {B : Nat} {v : Value} {p : PrD} (hpn : p.n ≤ 1048576) {w : World} (hP : InP B w v p) :
    Calls Try.prog 66 #[gv P Q G, .string s, ev4 a b c d, v] w (EqOut (.bool (svV P Q G s [[a], [c]] [b, d] p)) w) := by
  obtain ⟨a1, c1, a2, c2, a3, c3, rfl, _, _, _⟩ := hP.parts
  have hal := ba ((w.alloc (.cells #[.int .i64 P, .int .i64 Q, .int .i64 G] 32)).alloc (.cells #[.int .i64 a, .int .i64 b, .int .i64 c, .int .i64 d] 47)) (.cells #[.slice a1 p.c.length c1, .slice a2 p.h.length c2, .slice a3 p.r.length c3] 36)
  have hae := bt (ba (w.alloc (.cells #[.int .i64 P, .int .i64 Q, .int .i64 G] 32)) (.cells #[.int .i64 a, .int .i64 b, .int .i64 c, .int .i64 d] 47)) hal
  have HB_0 := Lib.hid (bt (ba w (.cells #[.int .i64 P, .int .i64 Q, .int .i64 G] 32)) hae)
  have G_0 := Lib.hid (GR.below (gr_new w P Q G 32) hae)
  have hw := v4_new (w.alloc (.cells #[.int .i64 P, .int .i64 Q, .int .i64 G] 32)) a b c d 47
  rw [show (w.alloc (.cells #[.int .i64 P, .int .i64 Q, .int .i64 G] 32)).heap.size = w.heap.size + 1 by simp] at hw
  have W_0 := Lib.hid (V4.below hw hal)
  have hv := b3_new ((w.alloc (.cells #[.int .i64 P, .int .i64 Q, .int .i64 G] 32)).alloc (.cells #[.int .i64 a, .int .i64 b, .int .i64 c, .int .i64 d] 47)) (.slice a1 p.c.length c1) (.slice a2 p.h.length c2) (.slice a3 p.r.length c3) 36
  rw [show ((w.alloc (.cells #[.int .i64 P, .int .i64 Q, .int .i64 G] 32)).alloc (.cells #[.int .i64 a, .int .i64 b, .int .i64 c, .int .i64 d] 47)).heap.size = w.heap.size + 2 by simp] at hv
  have V_0 := Lib.hid hv
  have P_0 := Lib.hid (hP.below HB_0.out)
  clear hal hv hP hae hw
  have hok := (ok_eq P Q a b c d).trans hel
  simp only [St.ok, Bool.and_eq_true, decide_eq_true_eq] at hok
  obtain ⟨hk1, hk2, hk3⟩ := hok
  generalize hrs : ([[a], [c]] : List (List Int)) = rs at hk1 hk2 ⊢
  generalize his : ([b, d] : List Int) = is at hk2 hk3 ⊢
  have HRS := Lib.hid hrs
  have HIS := Lib.hid his
  have K1 := Lib.hid hk1
  have K2 := Lib.hid hk2
  have K3 := Lib.hid hk3
  clear hrs his hk1 hk2 hk3 hel
  go_enter Try.func66, Try.ntmps66
  generalize hW : ((w.alloc (.cells #[.int .i64 P, .int .i64 Q, .int .i64 G] 32)).alloc (.cells #[.int .i64 a, .int .i64 b, .int .i64 c, .int .i64 d] 47)).alloc (.cells #[.slice a1 p.c.length c1, .slice a2 p.h.length c2, .slice a3 p.r.length c3] 36) = W at *
  have hk := eq_lit W a b c d 3 3 25 3 _ rfl
  rw [HRS.out, HIS.out] at hk
  have HKL := Lib.hid hk
  have hp3 := Lib.hid (P_0.out.below hk.2.2)
  have HB3 := Lib.hid (bt HB_0.out hk.2.2)
  obtain ⟨bV0, bV1, bV2, _⟩ := V_0.out.below hk.2.2
  clear hk
  obtain ⟨gG0, gG1, gG2⟩ := G_0.out
  obtain ⟨eW0, eW1, eW2, eW3⟩ := W_0.out
  obtain ⟨fW0, fW1, fW2, fW3⟩ := W_0.out.below (ba W (.cells #[.int .i64 a] 3))
  obtain ⟨iW0, iW1, iW2, iW3⟩ := W_0.out.below (bt (bt (ba W (.cells #[.int .i64 a] 3)) (ba _ (.cells #[.int .i64 c] 3))) (ba _ (.cells #[.slice (some ⟨W.heap.size, 0, none⟩) 1 1, .slice (some ⟨W.heap.size + 1, 0, none⟩) 1 1] 25)))
  go_wp2_with fail
  refine (sVerify_any P Q G hg s hs K1.out K2.out K3.out hpn HKL.out.1 HKL.out.2.1 hp3.out).mono ?_
  rintro e v9 ⟨rfl, hb⟩
  have HB_9 := Lib.hid (bt HB3.out hb)
  clear hb
  go_wp2
  go_ret
  exact ⟨rfl, HB_9.out⟩

set_option maxRecDepth 100000 in
set_option maxHeartbeats 3200000 in
theorem sVerifyEqual_any (P Q G a b c d : Int) (s : ByteArray) (hs : s.size ≤ 1048576) {B : Nat} {v : Value} {p : PrD} (hpn : p.n ≤ 1048576) {w : World} (hP : InP B w v p) :
    Calls Try.prog 28 #[gv P Q G, .string s, ev4 a b c d, v] w (EqOut (.tuple #[.bool (vrV P Q G s (St.lin [[a], [c]] [b, d]) p), .bool (vrB P Q G s (St.lin [[a], [c]] [b, d]))]) w) := by
  obtain ⟨a1, c1, a2, c2, a3, c3, rfl, _, _, _⟩ := hP.parts
  have hal := ba ((w.alloc (.cells #[.int .i64 P, .int .i64 Q, .int .i64 G] 32)).alloc (.cells #[.int .i64 a, .int .i64 b, .int .i64 c, .int .i64 d] 47)) (.cells #[.slice a1 p.c.length c1, .slice a2 p.h.length c2, .slice a3 p.r.length c3] 36)
  have hae := bt (ba (w.alloc (.cells #[.int .i64 P, .int .i64 Q, .int .i64 G] 32)) (.cells #[.int .i64 a, .int .i64 b, .int .i64 c, .int .i64 d] 47)) hal
  have HB_0 := Lib.hid (bt (ba w (.cells #[.int .i64 P, .int .i64 Q, .int .i64 G] 32)) hae)
  have G_0 := Lib.hid (GR.below (gr_new w P Q G 32) hae)
  have hw := v4_new (w.alloc (.cells #[.int .i64 P, .int .i64 Q, .int .i64 G] 32)) a b c d 47
  rw [show (w.alloc (.cells #[.int .i64 P, .int .i64 Q, .int .i64 G] 32)).heap.size = w.heap.size + 1 by simp] at hw
  have W_0 := Lib.hid (V4.below hw hal)
  have hv := b3_new ((w.alloc (.cells #[.int .i64 P, .int .i64 Q, .int .i64 G] 32)).alloc (.cells #[.int .i64 a, .int .i64 b, .int .i64 c, .int .i64 d] 47)) (.slice a1 p.c.length c1) (.slice a2 p.h.length c2) (.slice a3 p.r.length c3) 36
  rw [show ((w.alloc (.cells #[.int .i64 P, .int .i64 Q, .int .i64 G] 32)).alloc (.cells #[.int .i64 a, .int .i64 b, .int .i64 c, .int .i64 d] 47)).heap.size = w.heap.size + 2 by simp] at hv
  have V_0 := Lib.hid hv
  have P_0 := Lib.hid (hP.below HB_0.out)
  clear hal hv hP hae hw
  cases h0 : (goodB P Q G && decide (s.size ≤ 40))
  · have K0 := Lib.hid (show (goodB P Q G && decide (s.size ≤ 40)) = false from h0)
    have E1 := Lib.hid (show vrB P Q G s (St.lin [[a], [c]] [b, d]) = false from by rw [vrB_eq, h0]; rfl)
    have E2 := Lib.hid (vrV_off (p := p) E1.out)
    rw [E1.out, E2.out]
    clear h0
    obtain ⟨gG0, gG1, gG2⟩ := G_0.out
    obtain ⟨eW0, eW1, eW2, eW3⟩ := W_0.out
    obtain ⟨bV0, bV1, bV2, _⟩ := V_0.out
    go_enter Try.func28, Try.ntmps28
    go_wp2_with fail
    refine (sLabel_any P Q G s hs _).mono ?_
    rw [K0.out]
    rintro e v1 ⟨rfl, hb⟩
    have HB_1 := Lib.hid (bt HB_0.out hb)
    have G_1 := Lib.hid (G_0.out.below hb)
    have W_1 := Lib.hid (W_0.out.below hb)
    have V_1 := Lib.hid (V_0.out.below hb)
    have P_1 := Lib.hid (P_0.out.below hb)
    clear hb gG0 gG1 gG2 eW0 eW1 eW2 eW3 bV0 bV1 bV2
    obtain ⟨gG0, gG1, gG2⟩ := G_1.out
    obtain ⟨eW0, eW1, eW2, eW3⟩ := W_1.out
    obtain ⟨bV0, bV1, bV2, _⟩ := V_1.out
    go_wp2
    go_ret2
    exact ⟨rfl, HB_1.out⟩
  have K0 := Lib.hid (show (goodB P Q G && decide (s.size ≤ 40)) = true from h0)
  have HGd := Lib.hid (show goodB P Q G = true from ((Bool.and_eq_true _ _).mp h0).1)
  have hs40 : s.size ≤ 1000000 := by have := of_decide_eq_true ((Bool.and_eq_true _ _).mp h0).2; omega
  cases h1 : allEl P Q [a, b, c, d]
  · have K1 := Lib.hid (show allEl P Q [a, b, c, d] = false from h1)
    have E1 := Lib.hid (show vrB P Q G s (St.lin [[a], [c]] [b, d]) = false from by rw [vrB_eq, h0]; simp [ok_eq, h1])
    have E2 := Lib.hid (vrV_off (p := p) E1.out)
    rw [E1.out, E2.out]
    clear h0 h1
    obtain ⟨gG0, gG1, gG2⟩ := G_0.out
    obtain ⟨eW0, eW1, eW2, eW3⟩ := W_0.out
    obtain ⟨bV0, bV1, bV2, _⟩ := V_0.out
    go_enter Try.func28, Try.ntmps28
    go_wp2_with fail
    refine (sLabel_any P Q G s hs _).mono ?_
    rw [K0.out]
    rintro e v1 ⟨rfl, hb⟩
    have HB_1 := Lib.hid (bt HB_0.out hb)
    have G_1 := Lib.hid (G_0.out.below hb)
    have W_1 := Lib.hid (W_0.out.below hb)
    have V_1 := Lib.hid (V_0.out.below hb)
    have P_1 := Lib.hid (P_0.out.below hb)
    clear hb gG0 gG1 gG2 eW0 eW1 eW2 eW3 bV0 bV1 bV2
    obtain ⟨gG0, gG1, gG2⟩ := G_1.out
    obtain ⟨eW0, eW1, eW2, eW3⟩ := W_1.out
    obtain ⟨bV0, bV1, bV2, _⟩ := V_1.out
    go_wp2_with fail
    refine (sElements_any P Q G a b c d (good_mo HGd.out) _).mono ?_
    rw [K1.out]
    rintro e v2 ⟨rfl, hb⟩
    have HB_2 := Lib.hid (bt HB_1.out hb)
    have G_2 := Lib.hid (G_1.out.below hb)
    have W_2 := Lib.hid (W_1.out.below hb)
    have V_2 := Lib.hid (V_1.out.below hb)
    have P_2 := Lib.hid (P_1.out.below hb)
    clear hb gG0 gG1 gG2 eW0 eW1 eW2 eW3 bV0 bV1 bV2
    obtain ⟨gG0, gG1, gG2⟩ := G_2.out
    obtain ⟨eW0, eW1, eW2, eW3⟩ := W_2.out
    obtain ⟨bV0, bV1, bV2, _⟩ := V_2.out
    go_wp2
    go_ret2
    exact ⟨rfl, HB_2.out⟩
  have K1 := Lib.hid (show allEl P Q [a, b, c, d] = true from h1)
  have hvb : vrB P Q G s (St.lin [[a], [c]] [b, d]) = true := by rw [vrB_eq, h0, ok_eq, h1]; rfl
  have E1 := Lib.hid hvb
  have E2 := Lib.hid (vr_lin (p := p) hvb)
  rw [E1.out, E2.out]
  have K1b := Lib.hid h1
  clear hvb h0 h1
  obtain ⟨gG0, gG1, gG2⟩ := G_0.out
  obtain ⟨eW0, eW1, eW2, eW3⟩ := W_0.out
  obtain ⟨bV0, bV1, bV2, _⟩ := V_0.out
  go_enter Try.func28, Try.ntmps28
  go_wp2_with fail
  refine (sLabel_any P Q G s hs _).mono ?_
  rw [K0.out]
  rintro e v1 ⟨rfl, hb⟩
  have HB_1 := Lib.hid (bt HB_0.out hb)
  have G_1 := Lib.hid (G_0.out.below hb)
  have W_1 := Lib.hid (W_0.out.below hb)
  have V_1 := Lib.hid (V_0.out.below hb)
  have P_1 := Lib.hid (P_0.out.below hb)
  clear hb gG0 gG1 gG2 eW0 eW1 eW2 eW3 bV0 bV1 bV2
  obtain ⟨gG0, gG1, gG2⟩ := G_1.out
  obtain ⟨eW0, eW1, eW2, eW3⟩ := W_1.out
  obtain ⟨bV0, bV1, bV2, _⟩ := V_1.out
  go_wp2_with fail
  refine (sElements_any P Q G a b c d (good_mo HGd.out) _).mono ?_
  rw [K1.out]
  rintro e v2 ⟨rfl, hb⟩
  have HB_2 := Lib.hid (bt HB_1.out hb)
  have G_2 := Lib.hid (G_1.out.below hb)
  have W_2 := Lib.hid (W_1.out.below hb)
  have V_2 := Lib.hid (V_1.out.below hb)
  have P_2 := Lib.hid (P_1.out.below hb)
  clear hb gG0 gG1 gG2 eW0 eW1 eW2 eW3 bV0 bV1 bV2
  obtain ⟨gG0, gG1, gG2⟩ := G_2.out
  obtain ⟨eW0, eW1, eW2, eW3⟩ := W_2.out
  obtain ⟨bV0, bV1, bV2, _⟩ := V_2.out
  go_wp2_with fail
  refine (sVerifyEq_any P Q G a b c d HGd.out s hs40 K1b.out hpn P_2.out).mono ?_
  rintro e v9 ⟨rfl, hb⟩
  have HB_9 := Lib.hid (bt HB_2.out hb)
  clear hb
  go_wp2
  go_ret2
  exact ⟨rfl, HB_9.out⟩

set_option maxRecDepth 100000 in
set_option maxHeartbeats 3200000 in
theorem verifyEqual_any (P Q G a b c d : Int) (s : ByteArray) (hs : s.size ≤ 1048576) {B : Nat} {v : Value} {p : PrD} (hpn : p.n ≤ 1048576) {w : World} (hP : InP B w v p) :
    Calls Try.prog 30 #[gv P Q G, .string s, ev4 a b c d, v] w (EqOut (.tuple #[.bool (vrV P Q G s (St.lin [[a], [c]] [b, d]) p), .bool (vrB P Q G s (St.lin [[a], [c]] [b, d]))]) w) := by
  obtain ⟨a1, c1, a2, c2, a3, c3, rfl, _, _, _⟩ := hP.parts
  have hal := ba ((w.alloc (.cells #[.int .i64 P, .int .i64 Q, .int .i64 G] 32)).alloc (.cells #[.int .i64 a, .int .i64 b, .int .i64 c, .int .i64 d] 47)) (.cells #[.slice a1 p.c.length c1, .slice a2 p.h.length c2, .slice a3 p.r.length c3] 36)
  have hae := bt (ba (w.alloc (.cells #[.int .i64 P, .int .i64 Q, .int .i64 G] 32)) (.cells #[.int .i64 a, .int .i64 b, .int .i64 c, .int .i64 d] 47)) hal
  have HB_0 := Lib.hid (bt (ba w (.cells #[.int .i64 P, .int .i64 Q, .int .i64 G] 32)) hae)
  have G_0 := Lib.hid (GR.below (gr_new w P Q G 32) hae)
  have hw := v4_new (w.alloc (.cells #[.int .i64 P, .int .i64 Q, .int .i64 G] 32)) a b c d 47
  rw [show (w.alloc (.cells #[.int .i64 P, .int .i64 Q, .int .i64 G] 32)).heap.size = w.heap.size + 1 by simp] at hw
  have W_0 := Lib.hid (V4.below hw hal)
  have hv := b3_new ((w.alloc (.cells #[.int .i64 P, .int .i64 Q, .int .i64 G] 32)).alloc (.cells #[.int .i64 a, .int .i64 b, .int .i64 c, .int .i64 d] 47)) (.slice a1 p.c.length c1) (.slice a2 p.h.length c2) (.slice a3 p.r.length c3) 36
  rw [show ((w.alloc (.cells #[.int .i64 P, .int .i64 Q, .int .i64 G] 32)).alloc (.cells #[.int .i64 a, .int .i64 b, .int .i64 c, .int .i64 d] 47)).heap.size = w.heap.size + 2 by simp] at hv
  have V_0 := Lib.hid hv
  have P_0 := Lib.hid (hP.below HB_0.out)
  clear hal hv hP hae hw
  generalize hrs : ([[a], [c]] : List (List Int)) = rs
  generalize his : ([b, d] : List Int) = is
  have HRS := Lib.hid hrs
  have HIS := Lib.hid his
  clear hrs his
  have hl : rs.length ≤ 1048576 := by rw [← HRS.out]; simp
  have hi8 : is.length ≤ 17592186044416 := by rw [← HIS.out]; simp
  have HRL := Lib.hid (show ∀ z ∈ rs, z.length ≤ 17592186044416 from by
    rw [← HRS.out]; intro z hz
    rcases List.mem_cons.1 hz with rfl | hz
    · simp
    · rw [List.mem_singleton.1 hz]; simp)
  go_enter Try.func30, Try.ntmps30
  go_wp2_with fail
  generalize hW : ((w.alloc (.cells #[.int .i64 P, .int .i64 Q, .int .i64 G] 32)).alloc (.cells #[.int .i64 a, .int .i64 b, .int .i64 c, .int .i64 d] 47)).alloc (.cells #[.slice a1 p.c.length c1, .slice a2 p.h.length c2, .slice a3 p.r.length c3] 36) = W at *
  have HK := Lib.hid (show ∀ w', Below W.heap.size W w' → ((w'.cell? ⟨w.heap.size, 0, none⟩ = some (.int .i64 P) ∧ w'.cell? ⟨w.heap.size, 1, none⟩ = some (.int .i64 Q) ∧ w'.cell? ⟨w.heap.size, 2, none⟩ = some (.int .i64 G)) ∧ (w'.cell? ⟨w.heap.size + 1, 0, none⟩ = some (.int .i64 a) ∧ w'.cell? ⟨w.heap.size + 1, 1, none⟩ = some (.int .i64 b) ∧ w'.cell? ⟨w.heap.size + 1, 2, none⟩ = some (.int .i64 c) ∧ w'.cell? ⟨w.heap.size + 1, 3, none⟩ = some (.int .i64 d)) ∧ w'.cell? ⟨w.heap.size + 2, 0, none⟩ = some (.slice a1 p.c.length c1) ∧ w'.cell? ⟨w.heap.size + 2, 1, none⟩ = some (.slice a2 p.h.length c2) ∧ w'.cell? ⟨w.heap.size + 2, 2, none⟩ = some (.slice a3 p.r.length c3)) from fun w' hk => ⟨G_0.out.below hk, W_0.out.below hk, (V_0.out.below hk).1, (V_0.out.below hk).2.1, (V_0.out.below hk).2.2.1⟩)
  clear hW
  go_region_held3 (fun w' => (w'.cell? ⟨w.heap.size, 0, none⟩ = some (.int .i64 P) ∧ w'.cell? ⟨w.heap.size, 1, none⟩ = some (.int .i64 Q) ∧ w'.cell? ⟨w.heap.size, 2, none⟩ = some (.int .i64 G)) ∧ (w'.cell? ⟨w.heap.size + 1, 0, none⟩ = some (.int .i64 a) ∧ w'.cell? ⟨w.heap.size + 1, 1, none⟩ = some (.int .i64 b) ∧ w'.cell? ⟨w.heap.size + 1, 2, none⟩ = some (.int .i64 c) ∧ w'.cell? ⟨w.heap.size + 1, 3, none⟩ = some (.int .i64 d)) ∧ w'.cell? ⟨w.heap.size + 2, 0, none⟩ = some (.slice a1 p.c.length c1) ∧ w'.cell? ⟨w.heap.size + 2, 1, none⟩ = some (.slice a2 p.h.length c2) ∧ w'.cell? ⟨w.heap.size + 2, 2, none⟩ = some (.slice a3 p.r.length c3)) (first | exact HK.out _ (Below.refl _ W).drew | exact HK.out _ HBr.out | exact HK.out _ HBs.out) ((first
    | (go_at_call 67; refine (rows_any a b c d _).mono ?_; rintro e vr ⟨r1, r2, rfl, hrw, hb⟩; have hin := hrw.ins; rw [HRS.out, HIS.out] at hin; have HIN := Lib.hid hin; have HBr := Lib.hid (bt (Below.refl _ W).drew hb); have Pr := Lib.hid (P_0.out.below HBr.out); clear hb hrw hin)
    | (go_at_call 64; refine (verifyLin_any P Q G s hs hl HRL.out hi8 hpn HIN.out.1 HIN.out.2 Pr.out).mono ?_; rintro e vs ⟨rfl, hb⟩; have HBs := Lib.hid (bt HBr.out hb); clear hb)
    | fail))
  all_goals (
    go_wp2
    go_ret2
    exact ⟨rfl, bt HB_0.out HBs.out⟩)

end Go.Proofs.Ytdaekpfngphefaa

/- Sigma proofs: what proves. -/
namespace Go.Proofs.Ytdaekpfngphefaa
open Go.RowKit
set_option linter.unusedVariables false
set_option linter.unusedSimpArgs false

/-! ### A multiple is added (as in PolA) -/
theorem smul_res {q a b : Int} (h3 : q ≤ 2000000000) (ha0 : 0 ≤ a) (ha : a < q) (hb0 : 0 ≤ b) (hb : b < q) : 0 ≤ a * b ∧ a * b ≤ 4000000000000000000 := prod_bd ha0 (by omega) hb0 (by omega)
/-- Where the row stands after k rounds. -/
def srowAt (q c : Int) (P gs : List Int) (off k : Nat) : List Int := P.take off ++ sxpy q (P.drop off) c (gs.take k)
theorem srowAt_get {q c : Int} {P gs : List Int} {off k : Nat} (hk : off + k < P.length) : (srowAt q c P gs off k)[off + k]? = P[off + k]? := by
  unfold srowAt
  rw [List.getElem?_append_right (by simp; omega)]
  have : off + k - (P.take off).length = k := by simp; omega
  rw [this, sxpy_get _ _ _ (by simp; omega), List.getElem?_drop]
theorem srowAt_step {q c a b : Int} {P gs rest : List Int} {off k : Nat} (hk : off + k < P.length) (ha : P[off + k]? = some a) (hb : gs.drop k = b :: rest) : (srowAt q c P gs off k).set (off + k) ((a + c * b) % q) = srowAt q c P gs off (k + 1) := by
  unfold srowAt
  rw [List.set_append_right _ _ (by simp; omega)]
  have : off + k - (P.take off).length = k := by simp; omega
  rw [this, sxpy_step _ _ _ a b (by rw [List.getElem?_drop]; exact ha)]
  have h : (gs.drop k)[0]? = some b := by rw [hb]; rfl
  rwa [List.getElem?_drop, Nat.add_zero] at h
theorem srowAt_zero (q c : Int) (P gs : List Int) (off : Nat) : srowAt q c P gs off 0 = P := by
  unfold srowAt; rw [List.take_zero, sxpy_nil, List.take_append_drop]
theorem srowAt_all {q c : Int} {P gs : List Int} {off k : Nat} (h : gs.length ≤ k) : srowAt q c P gs off k = P.take off ++ sxpy q (P.drop off) c gs := by
  unfold srowAt; rw [List.take_of_length_le h]

theorem sints_lt {w : World} {ad : Option Addr} {zs : List Int} (h : IsInts w ad zs) (h0 : zs ≠ []) : ∀ a, ad = some a → a.block < w.heap.size := by
  rcases h with h | ⟨b, off, rfl, hb, _⟩
  · exact absurd h h0
  · rintro a ⟨⟩; exact hb
theorem sints_ne {w : World} {ad : Option Addr} {zs : List Int} {g : Nat} (h : IsInts w ad zs) (hg : w.heap.size ≤ g) : zs ≠ [] → ∀ a, ad = some a → some a.block ≠ some g := by
  intro h0 a ha h'
  have := sints_lt h h0 a ha
  simp only [Option.some.injEq] at h'
  omega
def sAddPost (w : World) (B g N C : Nat) (zs : List Int) (e : Ending) (w' : World) : Prop :=
  (∃ v, e = .returned v) ∧ w'.ownsRow B 3 1 (.slice (some ⟨g, 0, none⟩) N C) N (zs.map (Value.int .i64)) ∧ w.grownBy w' (some g)

set_option maxHeartbeats 1600000 in
theorem saddMultiple_any (q c : Int) (B g off len cap N C : Nat) (P : List Int) (ad : Option Addr) (n cap' : Nat) (gs : List Int) (h2 : 2 ≤ q) (h3 : q ≤ 2000000000) (hc0 : 0 ≤ c) (hc : c < q)
    (hP : ∀ z ∈ P, 0 ≤ z ∧ z < q) (hg : ∀ z ∈ gs, 0 ≤ z ∧ z < q) (hn : gs.length = n) (hnl : n ≤ len) (hol : off + len ≤ N) (hN : N ≤ 1000000) (w : World)
    (hown : w.ownsRow B 3 1 (.slice (some ⟨g, 0, none⟩) N C) N (P.map (Value.int .i64))) (hz : IsInts w ad gs) (hne : gs ≠ [] → ∀ a, ad = some a → some a.block ≠ some g) :
    Calls Try.prog 108 #[.int .i64 q, .slice (some ⟨g, off, none⟩) len cap, .int .i64 c, .slice ad n cap'] w (sAddPost w B g N C (P.take off ++ sxpy q (P.drop off) c gs)) := by
  have hPl : P.length = N := by have := hown.1; simpa using this
  have HP := Lib.hid hP
  have HG := Lib.hid hg
  have HN := Lib.hid hn
  have HPL := Lib.hid hPl
  have HOW := Lib.hid hown
  clear hP hg hn hPl hown
  go_enter Try.func108, Try.ntmps108
  go_wp2_with fail
  go_loopw [8, 9, 12] (fun _ _ K wr => ∃ k : Nat, k ≤ n ∧ K = .int .i64 k ∧ wr.ownsRow B 3 1 (.slice (some ⟨g, 0, none⟩) N C) N ((srowAt q c P gs off k).map (Value.int .i64)) ∧ w.grownBy wr (some g)) (fun _ _ K _ => n - (intOf K).toNat)
  case atStart => exact ⟨0, Nat.zero_le _, rfl, by rw [srowAt_zero]; exact HOW.out, grown_of_below (Below.refl _ _) _⟩
  case round =>
    obtain ⟨k, hk, rfl, hownr, hgr⟩ := hrel
    by_cases hkn : k < n
    · obtain ⟨b, o', z, rfl, hb, hcz, hd⟩ := (hz.grown hgr (hne (by intro h; have := HN.out; simp [h] at this; omega))).at (k := k) (by have := HN.out; omega)
      have hok : off + k < P.length := by rw [HPL.out]; omega
      have hpk : P[off + k]? = some P[off + k] := by simp [hok]
      obtain ⟨hcu, hfu⟩ := sown_at hownr (j := off + k) (by omega) ((srowAt_get hok).trans hpk)
      have hpr := HP.out P[off + k] (List.getElem_mem hok)
      have hzr := HG.out z (mem_drop hd)
      obtain ⟨m0, m1⟩ := smul_res h3 hc0 hc hzr.1 hzr.2
      have HO := Lib.hid (sown_set (j := off + k) hownr ((P[off + k] + c * z) % q))
      have HS := Lib.hid (srowAt_step (q := q) (c := c) hok hpk hd)
      have HGR := Lib.hid hgr
      have HD := Lib.hid hd
      generalize P[off + k] = p at *
      clear hownr hgr hd hpk hok
      go_wp2
      go_roundw
      case rel =>
        refine ⟨k + 1, by omega, by go_num, ?_, grown_trans HGR.out (grown_cell _ _ _)⟩
        have h := HO.out
        rwa [HS.out] at h
      case measure => simp only [intOf]; omega
    · have HO := Lib.hid hownr
      have HGR := Lib.hid hgr
      clear hownr hgr
      go_wp2
      go_end0
      refine ⟨⟨_, rfl⟩, ?_, HGR.out⟩
      have h := HO.out
      rwa [srowAt_all (by have := HN.out; omega)] at h

/-! ### Commits are elements -/
theorem zip_el {P Q G c : Int} (hg : goodB P Q G = true) (hc : 0 ≤ c) : ∀ (a b : List Int), allEl P Q a = true → allEl P Q b = true → allEl P Q (List.zipWith (fun x y => decW P Q y x c) a b) = true
  | [], _, _, _ => by simp [allEl]
  | _ :: _, [], _, _ => by simp [allEl]
  | x :: a, y :: b, h1, h2 => by
    simp only [allEl, List.all_cons, Bool.and_eq_true, List.zipWith_cons_cons] at *
    exact ⟨dec_el hg h2.1 h1.1 hc, zip_el hg hc a b h1.2 h2.2⟩
theorem imgs_all {P Q G : Int} (hg : goodB P Q G = true) {rows : List (List Int)} {es : List Int} (hr : ∀ r ∈ rows, allEl P Q r = true) (he : allIn es 0 (Q - 1) = true) : allEl P Q (imgs P rows es) = true := by
  unfold allEl imgs
  rw [List.all_eq_true]
  intro z hz
  obtain ⟨r, hr', rfl⟩ := List.mem_map.1 hz
  exact pows_el hg r es 1 (one_el hg) (hr r hr') he
theorem in_take {es : List Int} {lo hi : Int} (h : allIn es lo hi = true) (k : Nat) : allIn (es.take k) lo hi = true := by
  unfold allIn at *
  rw [List.all_eq_true] at *
  exact fun z hz => h z (List.mem_of_mem_take hz)
theorem in_drop {es : List Int} {lo hi : Int} (h : allIn es lo hi = true) (k : Nat) : allIn (es.drop k) lo hi = true := by
  unfold allIn at *
  rw [List.all_eq_true] at *
  exact fun z hz => h z (List.mem_of_mem_drop hz)
theorem cmts_el {P Q G : Int} (hg : goodB P Q G = true) : ∀ (ps : List LinD) (h r : List Int), (∀ p ∈ ps, (∀ r ∈ p.1, allEl P Q r = true) ∧ allEl P Q p.2 = true) → (∀ e ∈ h, 0 ≤ e) → allIn r 0 (Q - 1) = true → allEl P Q (cmts P Q ps h r) = true
  | [], _, _, _, _, _ => by simp [cmts, allEl]
  | _ :: _, [], _, _, _, _ => by simp [cmts, allEl]
  | p :: ps, c :: cs, r, hp, hh, hr => by
    have ih := cmts_el hg ps cs (r.drop (wid p.1)) (fun p hm => hp p (by simp [hm])) (fun e he => hh e (by simp [he])) (in_drop hr _)
    have h1 := hp p (by simp)
    show allEl P Q (List.zipWith _ (imgs P p.1 _) p.2 ++ cmts P Q ps cs _) = true
    exact all_app (zip_el hg (hh c (by simp)) _ _ (imgs_all hg h1.1 (in_take hr _)) h1.2) ih

/-! ### An answer whose Challenges and Responses lie ahead of its Commits -/
def OwQ (Q P : Nat) (w : World) (v : Value) (p : PrD) : Prop := ∃ a b c q1 p1 q2 p2 q3 p3, v = .agg #[a, b, c] ∧ OwI q1 p1 w b p.h ∧ OwI q2 p2 w c p.r ∧ OwI q3 p3 w a p.c ∧
  ((Q ≤ q1 ∧ p1 ≤ P) ∧ (Q ≤ q2 ∧ p2 ≤ P) ∧ (Q ≤ q3 ∧ p3 ≤ P) ∧ P ≤ w.heap.size) ∧ (p1 ≤ q2 ∨ p2 ≤ q1) ∧ (p1 ≤ q3 ∨ p3 ≤ q1) ∧ (p2 ≤ q3 ∨ p3 ≤ q2)
theorem OwQ.chain {Q M N P : Nat} {w : World} {a b c : Value} {p : PrD} (h1 : OwI Q M w b p.h) (h2 : OwI M N w c p.r) (h3 : OwI N P w a p.c) : OwQ Q P w (.agg #[a, b, c]) p := by
  have q1 := h1.2.2.2
  have q2 := h2.2.2.2
  have q3 := h3.2.2.2
  have q4 := h3.2.2.1
  exact ⟨a, b, c, Q, M, M, N, N, P, rfl, h1, h2, h3, by omega, by omega, by omega, by omega⟩
theorem OwQ.below {Q P : Nat} {w w' : World} {v : Value} {p : PrD} (h : OwQ Q P w v p) (hb : Below w.heap.size w w') : OwQ Q P w' v p := by
  obtain ⟨a, b, c, q1, p1, q2, p2, q3, p3, rfl, h1, h2, h3, hi, hd⟩ := h
  have := hb.size
  exact ⟨a, b, c, q1, p1, q2, p2, q3, p3, rfl, h1.below hb, h2.below hb, h3.below hb, by omega, hd⟩
theorem OwQ.mid {Q P A B : Nat} {w w' : World} {v : Value} {p : PrD} (h : OwQ Q P w v p) (hm : Mid A B w w') (ho : P ≤ A ∨ B ≤ Q) : OwQ Q P w' v p := by
  obtain ⟨a, b, c, q1, p1, q2, p2, q3, p3, rfl, h1, h2, h3, hi, hd⟩ := h
  have := hm.size
  exact ⟨a, b, c, q1, p1, q2, p2, q3, p3, rfl, h1.mid hm (by omega), h2.mid hm (by omega), h3.mid hm (by omega), by omega, hd⟩
theorem OwQ.wide {Q P Q' P' : Nat} {w : World} {v : Value} {p : PrD} (h : OwQ Q P w v p) (hQ : Q' ≤ Q) (hP : P ≤ P') (hs : P' ≤ w.heap.size := by exact Nat.le_refl _) : OwQ Q' P' w v p := by
  obtain ⟨a, b, c, q1, p1, q2, p2, q3, p3, rfl, h1, h2, h3, hi, hd⟩ := h
  exact ⟨a, b, c, q1, p1, q2, p2, q3, p3, rfl, h1, h2, h3, by omega, hd⟩
theorem OwQ.toIn {Q P : Nat} {w : World} {v : Value} {p : PrD} (h : OwQ Q P w v p) : InP P w v p := by
  obtain ⟨a, b, c, q1, p1, q2, p2, q3, p3, rfl, h1, h2, h3, hi, hd⟩ := h
  exact ⟨a, b, c, rfl, h3.toIn.wide (by omega) (by omega), h1.toIn.wide (by omega) (by omega), h2.toIn.wide (by omega) (by omega)⟩
theorem OwQ.le {Q P : Nat} {w : World} {v : Value} {p : PrD} (h : OwQ Q P w v p) : P ≤ w.heap.size := h.toIn.le
theorem owQ_nil (Q : Nat) (w : World) (hQ : Q ≤ w.heap.size) : OwQ Q w.heap.size w (.agg #[.slice none 0 0, .slice none 0 0, .slice none 0 0]) nilP :=
  .chain (owI_nil Q w hQ) (owI_nil _ w (Nat.le_refl _)) (owI_nil _ w (Nat.le_refl _))
def AnsQ (base : Nat) (w : World) (p : PrD) (ok : Bool) (e : Ending) (w' : World) : Prop := ∃ a b c, e = .returned (.tuple #[.agg #[a, b, c], .bool ok]) ∧ OwQ base w'.heap.size w' (.agg #[a, b, c]) p ∧ Below base w w'
def MarkQ (Q P : Nat) (w : World) (p : PrD) (v : Value) (k : Int) (e : Ending) (w' : World) : Prop := e = .returned (.int .i64 (k + (p.n : Int))) ∧ OwQ Q P w' v (mkP k p) ∧ Mid Q P w w'

set_option maxRecDepth 100000 in
set_option maxHeartbeats 1600000 in
theorem markQ_any {Q P : Nat} {w : World} {v : Value} {p : PrD} {k : Int} (h : OwQ Q P w v p) (hk0 : 0 ≤ k) (hk1 : k ≤ 8796093022208) (hl : p.n ≤ 8796093022208) :
    Calls Try.prog 40 #[v, .int .i64 k] w (MarkQ Q P w p v k) := by
  obtain ⟨a, b, c, q1, p1, q2, p2, q3, p3, rfl, h1, h2, h3, ⟨i1, i2, i3, i4⟩, d1, d2, d3⟩ := h
  obtain ⟨hl1, hl2, hl3, hl4⟩ : p.c.length ≤ 8796093022208 ∧ p.h.length ≤ 8796093022208 ∧ p.r.length ≤ 8796093022208 ∧ p.c.length + p.h.length ≤ 8796093022208 := by unfold PrD.n at hl; omega
  have hal := ba w (.cells #[a, b, c] 36)
  have HX := Lib.hid (b3_new w a b c 36)
  have HM := Lib.hid (Mid.ofBelow (Q := Q) (P := P) hal)
  have J1 := Lib.hid (h3.below hal)
  have J2 := Lib.hid (h1.below hal)
  have J3 := Lib.hid (h2.below hal)
  obtain ⟨a1, a2, rfl⟩ := own_shape h3.1
  obtain ⟨b1, b2, rfl⟩ := own_shape h1.1
  obtain ⟨c1, c2, rfl⟩ := own_shape h2.1
  clear hal h1 h2 h3
  obtain ⟨x0, _, _, _⟩ := HX.out
  go_enter Try.func40, Try.ntmps40
  go_wp2_with fail
  refine (markI_any J1.out hk0 (by omega) (by omega)).mono ?_
  rintro e w1 ⟨rfl, ho1, hm1⟩
  have HX1 := Lib.hid (HX.out.mid hm1 (.inr (by omega)))
  have O1 := Lib.hid ho1
  have J21 := Lib.hid (J2.out.mid hm1 (by omega))
  have J31 := Lib.hid (J3.out.mid hm1 (by omega))
  have HM1 := Lib.hid (HM.out.trans (hm1.wide i3.1 i3.2))
  clear hm1 ho1 x0
  obtain ⟨_, x1, _, _⟩ := HX1.out
  go_wp2_with fail
  refine (markI_any J21.out (by omega) (by omega) (by omega)).mono ?_
  rintro e w2 ⟨rfl, ho2, hm2⟩
  have HX2 := Lib.hid (HX1.out.mid hm2 (.inr (by omega)))
  have O2 := Lib.hid (And.intro (O1.out.mid hm2 (by omega)) ho2)
  have J32 := Lib.hid (J31.out.mid hm2 (by omega))
  have HM2 := Lib.hid (HM1.out.trans (hm2.wide i1.1 i1.2))
  clear hm2 ho2 x1
  obtain ⟨_, _, x2, _⟩ := HX2.out
  go_wp2_with fail
  refine (markI_any J32.out (by omega) (by omega) (by omega)).mono ?_
  rintro e w3 ⟨rfl, ho3, hm3⟩
  have O3 := Lib.hid (And.intro (O2.out.1.mid hm3 (by omega)) (And.intro (O2.out.2.mid hm3 (by omega)) ho3))
  have HM3 := Lib.hid (HM2.out.trans (hm3.wide i2.1 i2.2))
  clear hm3 ho3 x2
  go_wp2
  go_ret
  refine ⟨?_, ?_, HM3.out⟩
  · exact ret_int (by unfold PrD.n; omega)
  · have hs := HM3.out.size
    exact ⟨_, _, _, q1, p1, q2, p2, q3, p3, rfl, O3.out.2.1, O3.out.2.2, O3.out.1, ⟨i1, i2, i3, by omega⟩, d1, d2, d3⟩


/-! ### complete -/
theorem InI.blk {B : Nat} {w : World} {ad : Option Addr} {n c : Nat} {zs : List Int} (h : InI B w (.slice ad n c) zs) {g : Nat} (hg : B ≤ g) : zs ≠ [] → ∀ a, ad = some a → some a.block ≠ some g := by
  intro h0 a ha e
  obtain ⟨_, ad', cap, hv, hb, _⟩ := h
  simp only [Value.slice.injEq] at hv
  obtain ⟨rfl, _, _⟩ := hv
  rcases hb with hb | ⟨b, off, h1, h2, _⟩
  · exact h0 hb
  · rw [h1] at ha; cases ha
    simp only [Option.some.injEq] at e
    omega
theorem OwI.put {Q P g c j : Nat} {w : World} {zs : List Int} (h : OwI Q P w (.slice (some ⟨g, 0, none⟩) zs.length c) zs) (x : Int) : OwI Q P (w.setCell ⟨g, j, none⟩ (.int .i64 x)) (.slice (some ⟨g, 0, none⟩) (zs.set j x).length c) (zs.set j x) := by
  have h1 := sown_set (j := j) h.1 x
  have hs : w.heap.size ≤ (w.setCell ⟨g, j, none⟩ (.int .i64 x)).heap.size := (mid_cell w g j (.int .i64 x)).size
  refine ⟨?_, fun k hk => h.2.1 k hk, Nat.le_trans h.2.2.1 hs, h.2.2.2⟩
  simpa using h1
theorem OwI.gblk {Q P g c n : Nat} {w : World} {zs : List Int} (h : OwI Q P w (.slice (some ⟨g, 0, none⟩) n c) zs) : Q ≤ g ∧ g < P := ⟨(h.1.lt g rfl).1, h.2.1 g rfl⟩
theorem mid_grow {g : Nat} {w w' : World} (h : w.grownBy w' (some g)) : Mid g (g + 1) w w' := Mid.grown h (by rintro k ⟨⟩; exact ⟨Nat.le_refl _, Nat.lt_succ_self _⟩)
theorem OwI.same {Q P g c : Nat} {w w' : World} {zs : List Int} (h : OwI Q P w (.slice (some ⟨g, 0, none⟩) zs.length c) zs) {ys : List Int} (ho : w'.ownsRow Q 3 1 (.slice (some ⟨g, 0, none⟩) zs.length c) zs.length (ys.map (Value.int .i64))) (hl : ys.length = zs.length) (hm : Mid g (g + 1) w w') : OwI Q P w' (.slice (some ⟨g, 0, none⟩) ys.length c) ys := by
  refine ⟨?_, fun k hk => h.2.1 k hk, Nat.le_trans h.2.2.1 hm.size, h.2.2.2⟩
  rw [hl]; exact ho

theorem GR.mid {w w' : World} {b A B : Nat} {P Q G : Int} (h : GR w b P Q G) (hm : Mid A B w w') (ho : b < A ∨ B ≤ b) : GR w' b P Q G := by
  have hl := h.lt
  have he : w'.heap[b]? = w.heap[b]? := hm.block b hl ho
  obtain ⟨c0, c1, c2⟩ := h
  refine ⟨?_, ?_, ?_⟩
  · rw [World.cell?_of_block (a := ⟨b, 0, none⟩) he]; exact c0
  · rw [World.cell?_of_block (a := ⟨b, 1, none⟩) he]; exact c1
  · rw [World.cell?_of_block (a := ⟨b, 2, none⟩) he]; exact c2
theorem mid3 (w : World) (b : Nat) (x y z : Value) : Mid b (b + 1) w (((w.setCell ⟨b, 0, none⟩ x).setCell ⟨b, 1, none⟩ y).setCell ⟨b, 2, none⟩ z) := ((mid_cell w b 0 x).trans (mid_cell _ b 1 y)).trans (mid_cell _ b 2 z)

set_option maxRecDepth 100000 in
set_option maxHeartbeats 6400000 in
theorem completeLin_any (P Q G : Int) (hg : goodB P Q G = true) (s : ByteArray) (hs : s.size ≤ 40) {B1 B2 : Nat} {u1 u2 : Value} {rows : List (List Int)} {im : List Int} {B3 base M gh ch gr cr x2 : Nat} {x1 : Option Addr} {dh dr xs : List Int} (hok : (St.lin rows im).ok P Q = true) {w : World} (hu1 : InS B1 w u1 rows) (hu2 : InI B2 w u2 im) (hB12 : B1 ≤ base ∧ B2 ≤ base) (hH : OwI base M w (.slice (some ⟨gh, 0, none⟩) dh.length ch) dh) (hR : OwI M w.heap.size w (.slice (some ⟨gr, 0, none⟩) dr.length cr) dr) (hX : InI B3 w (.slice x1 xs.length x2) xs) (hB3 : B3 ≤ base)
    (hdh : dh.length = (St.lin rows im).parts.length) (hdr : dr.length = nCols (St.lin rows im).parts) (hdi : allIn dh 0 (Q - 1) = true) (hri : allIn dr 0 (Q - 1) = true) (hxi : allIn xs 0 (Q - 1) = true) (hxl : xs.length ≤ dr.length) (hdp : 0 < dr.length) :
    Calls Try.prog 75 #[gv P Q G, .string s, .iface 90 (.agg #[u1, u2]), pv3 none 0 0 (some ⟨gh, 0, none⟩) dh.length ch (some ⟨gr, 0, none⟩) dr.length cr, .int .i64 0, .slice x1 xs.length x2] w (AnsQ base w (cplP P Q G s (St.lin rows im) dh dr 0 xs) true) := by
  obtain ⟨y1, y2, rfl⟩ := hu1.shape
  obtain ⟨z1, z2, rfl⟩ := hu2.shape
  obtain ⟨⟨f1, f2, f3, f4⟩, f5, f6, f7, f8⟩ := lin_facts hok
  have hm2 : ∀ (k : Nat) (W : World), (method (k + 1) 90 (.agg #[.slice y1 rows.length y2, .slice z1 im.length z2]) "loop.example/g00878/impl.parts").run Try.prog W = .ok (168, (.agg #[.slice y1 rows.length y2, .slice z1 im.length z2])) W := fun _ _ => by kernel_rfl
  have hfr := f7.1.rows (St.lin rows im).parts.length (Nat.le_refl _)
  rw [List.take_length] at hfr
  have h8 := f7.1.1
  obtain ⟨hhl, hrl⟩ : dh.length ≤ 8 ∧ dr.length ≤ 64 := by omega
  have hdi0 := all_ex hdi
  obtain ⟨cm, hcm⟩ : ∃ cm, cmts P Q (St.lin rows im).parts dh dr = cm := ⟨_, rfl⟩
  have hcme : allEl P Q cm = true := hcm ▸ cmts_el hg _ _ _ (fun p hp => ⟨fun r hr => ((f7.2 p hp).1 r hr).2, (f7.2 p hp).2.2⟩) (fun e he => (hdi0 e he).1) hri
  have hcml : cm.length ≤ 64 := by have h9 := cmts_len (P := P) (Q := Q) (St.lin rows im).parts dh dr (fun q hq => (f7.1.2 q hq).2.1); rw [hcm] at h9; omega
  have hch : chB P Q G s ((St.lin rows im).els ++ cm) 3 = true := ch_ok hg hs (by rw [List.length_append]; omega) (all_app f6 hcme)
  have hq := (good_rng hg).2.1
  obtain ⟨c, hc⟩ : ∃ c, missV P Q G s (St.lin rows im) cm dh = c := ⟨_, rfl⟩
  have hcr : 0 ≤ c ∧ c < Q := by
    rw [← hc]; unfold missV
    exact subF_rng (Q := Q) (e := 0) (by omega) ⟨by omega, by omega⟩ dh _ (chX_rng (by omega))
  have hcp : cplP P Q G s (St.lin rows im) dh dr 0 xs = ⟨cm, dh.set 0 c, dr.take (0 * xs.length) ++ sxpy Q (dr.drop (0 * xs.length)) c xs⟩ := by unfold cplP; simp only [hcm, hc]
  have hms := (msV_on (ch := dh) hch).trans hc
  rw [hcp]
  rw [Nat.zero_mul]
  have HCM := Lib.hid hcm
  have HCH := Lib.hid hch
  have HMS := Lib.hid hms
  have HG := Lib.hid hg
  have F7 := Lib.hid f7
  have HDI := Lib.hid hdi
  have HDI0 := Lib.hid hdi0
  have HRI := Lib.hid hri
  have HRI0 := Lib.hid (all_ex hri)
  have HXI := Lib.hid (all_ex hxi)
  have HDH := Lib.hid hdh
  have HDR := Lib.hid hdr
  have hgh := hH.gblk
  have hgr := hR.gblk
  have hMw := hR.2.2.2
  clear hcm hch hms hg f6 f7 hdi hdi0 hri hxi hcme hc hcp hfr hok hdh hdr
  have G_0 := Lib.hid (((gr_new w P Q G 32).below (ba _ (.cells #[.slice none 0 0, .slice (some ⟨gh, 0, none⟩) dh.length ch, .slice (some ⟨gr, 0, none⟩) dr.length cr] 36))).below (ba _ (.cells #[.slice none 0 0, .slice none 0 0, .slice none 0 0] 36)))
  have hv := (b3_new (w.alloc (.cells #[.int .i64 P, .int .i64 Q, .int .i64 G] 32)) (.slice none 0 0) (.slice (some ⟨gh, 0, none⟩) dh.length ch) (.slice (some ⟨gr, 0, none⟩) dr.length cr) 36).below (ba _ (.cells #[.slice none 0 0, .slice none 0 0, .slice none 0 0] 36))
  rw [show (w.alloc (.cells #[.int .i64 P, .int .i64 Q, .int .i64 G] 32)).heap.size = w.heap.size + 1 by simp] at hv
  have V_0 := Lib.hid hv
  have hz := b3_new ((w.alloc (.cells #[.int .i64 P, .int .i64 Q, .int .i64 G] 32)).alloc (.cells #[.slice none 0 0, .slice (some ⟨gh, 0, none⟩) dh.length ch, .slice (some ⟨gr, 0, none⟩) dr.length cr] 36)) (.slice none 0 0) (.slice none 0 0) (.slice none 0 0) 36
  rw [show ((w.alloc (.cells #[.int .i64 P, .int .i64 Q, .int .i64 G] 32)).alloc (.cells #[.slice none 0 0, .slice (some ⟨gh, 0, none⟩) dh.length ch, .slice (some ⟨gr, 0, none⟩) dr.length cr] 36)).heap.size = w.heap.size + 2 by simp] at hz
  have Z_0 := Lib.hid hz
  have HB_0 := Lib.hid (bt (bt (ba w (.cells #[.int .i64 P, .int .i64 Q, .int .i64 G] 32)) (ba _ (.cells #[.slice none 0 0, .slice (some ⟨gh, 0, none⟩) dh.length ch, .slice (some ⟨gr, 0, none⟩) dr.length cr] 36))) (ba _ (.cells #[.slice none 0 0, .slice none 0 0, .slice none 0 0] 36)))
  have H_0 := Lib.hid (hH.below HB_0.out)
  have R_0 := Lib.hid (hR.below HB_0.out)
  have X_0 := Lib.hid (hX.below HB_0.out)
  have M1_0 := Lib.hid (hu1.below HB_0.out)
  have M2_0 := Lib.hid (hu2.below HB_0.out)
  clear hv hz hH hR hX hu1 hu2
  obtain ⟨W, hW⟩ : ∃ W, ((w.alloc (.cells #[.int .i64 P, .int .i64 Q, .int .i64 G] 32)).alloc (.cells #[.slice none 0 0, .slice (some ⟨gh, 0, none⟩) dh.length ch, .slice (some ⟨gr, 0, none⟩) dr.length cr] 36)).alloc (.cells #[.slice none 0 0, .slice none 0 0, .slice none 0 0] 36) = W := ⟨_, rfl⟩
  rw [hW] at HB_0 G_0 V_0 Z_0 H_0 R_0 X_0 M1_0 M2_0
  have PP_0 := Lib.hid (show InP W.heap.size W (pv3 none 0 0 (some ⟨gh, 0, none⟩) dh.length ch (some ⟨gr, 0, none⟩) dr.length cr) ⟨[], dh, dr⟩ from ⟨_, _, _, rfl, InI.of (.inl rfl) (fun _ => rfl) (Nat.le_refl _), H_0.out.toIn.wide (by have := HB_0.out.size; omega) (Nat.le_refl _), R_0.out.toIn.wide HB_0.out.size (Nat.le_refl _)⟩)
  obtain ⟨g0, g1, g2⟩ := G_0.out
  obtain ⟨p0, p1, p2, pf⟩ := V_0.out
  go_enter Try.func75, Try.ntmps75
  go_wp2_with fail
  clear hW
  refine wpK_begin (n := 6) (S := (fun w' => (w'.cell? ⟨w.heap.size, 0, none⟩ = some (.int .i64 P) ∧ w'.cell? ⟨w.heap.size, 1, none⟩ = some (.int .i64 Q) ∧ w'.cell? ⟨w.heap.size, 2, none⟩ = some (.int .i64 G)) ∧ w'.cell? ⟨w.heap.size + 1, 0, none⟩ = some (.slice none 0 0) ∧ w'.cell? ⟨w.heap.size + 1, 1, none⟩ = some (.slice (some ⟨gh, 0, none⟩) dh.length ch) ∧ w'.cell? ⟨w.heap.size + 1, 2, none⟩ = some (.slice (some ⟨gr, 0, none⟩) dr.length cr))) (by kernel_rfl) ?_
  refine wpK_take (i := 0) (v := ?_) rfl (by kernel_rfl) (by kernel_rfl) (by kernel_rfl) (by kernel_rfl) (fun _ _ _ h => h) (Or.inl ⟨by kernel_rfl, ?_⟩) (show _ from ⟨⟨G_0.out.1, G_0.out.2.1, G_0.out.2.2⟩, V_0.out.1, V_0.out.2.1, V_0.out.2.2.1⟩) ?_
  rotate_left 1
  · intro w9 hSw
    (try dsimp only at hSw)
    go_simp
    (try with_reducible rfl)
  (try simp only [Act.put, List.getElem_toArray, List.getElem_cons_succ, List.getElem_cons_zero, List.setIfInBounds_toArray, List.set_cons_zero, List.set_cons_succ])
  refine wpK_take (i := 1) (v := ?_) rfl (by kernel_rfl) (by kernel_rfl) (by kernel_rfl) (by kernel_rfl) (fun _ _ _ h => h) (Or.inl ⟨by kernel_rfl, ?_⟩) (show _ from ⟨⟨G_0.out.1, G_0.out.2.1, G_0.out.2.2⟩, V_0.out.1, V_0.out.2.1, V_0.out.2.2.1⟩) ?_
  rotate_left 1
  · intro w9 hSw
    (try dsimp only at hSw)
    go_simp
    (try with_reducible rfl)
  (try simp only [Act.put, List.getElem_toArray, List.getElem_cons_succ, List.getElem_cons_zero, List.setIfInBounds_toArray, List.set_cons_zero, List.set_cons_succ])
  refine wpK_take (i := 3) (v := ?_) rfl (by kernel_rfl) (by kernel_rfl) (by kernel_rfl) (by kernel_rfl) (fun _ _ _ h => h) (Or.inl ⟨by kernel_rfl, ?_⟩) (show _ from ⟨⟨G_0.out.1, G_0.out.2.1, G_0.out.2.2⟩, V_0.out.1, V_0.out.2.1, V_0.out.2.2.1⟩) ?_
  rotate_left 1
  · intro w9 hSw
    (try dsimp only at hSw)
    go_simp
    (try with_reducible rfl)
  (try simp only [Act.put, List.getElem_toArray, List.getElem_cons_succ, List.getElem_cons_zero, List.setIfInBounds_toArray, List.set_cons_zero, List.set_cons_succ])
  refine wpK_one (i := 2) (by kernel_rfl) rfl ?_
  intro K' hK
  go_simp
  go_at_call 168
  refine (linParts_any M1_0.out.dr M2_0.out.dr).mono ?_
  rintro e vp ⟨rp, rfl, hL, hb0⟩
  obtain ⟨lg, lc, rfl, _⟩ := id hL
  have hb : Below W.heap.size W vp := bt ((Below.refl _ W).drew) hb0
  clear hb0
  have HB_p := Lib.hid (bt HB_0.out hb)
  have G_p := Lib.hid (G_0.out.below hb)
  have V_p := Lib.hid (V_0.out.below hb)
  have Z_p := Lib.hid (Z_0.out.below hb)
  have H_p := Lib.hid (H_0.out.below hb)
  have R_p := Lib.hid (R_0.out.below hb)
  have X_p := Lib.hid (X_0.out.below hb)
  have PP_p := Lib.hid (PP_0.out.below hb)
  have M1_p := Lib.hid (M1_0.out.below hb)
  have M2_p := Lib.hid (M2_0.out.below hb)
  clear hb
  have L_p := Lib.hid hL
  clear hL
  go_wp2_with fail
  refine hK.out _ _ (fun _ => ⟨⟨G_p.out.1, G_p.out.2.1, G_p.out.2.2⟩, V_p.out.1, V_p.out.2.1, V_p.out.2.2.1⟩) ?_
  clear hK K'
  (try simp only [Act.put, List.getElem_toArray, List.getElem_cons_succ, List.getElem_cons_zero, List.setIfInBounds_toArray, List.set_cons_zero, List.set_cons_succ])
  refine wpK_one (i := 4) (by kernel_rfl) rfl ?_
  intro K' hK
  go_simp
  go_at_call 106
  refine (commitsOf_any P Q G HG.out F7.out f8 HDH.out HDR.out HDI.out HRI.out L_p.out PP_p.out).mono ?_
  rw [HCM.out]
  rintro e vq ⟨rc, rfl, ho, hb⟩
  obtain ⟨rca, rcc, rfl⟩ := ho.toIn.shape
  have HB_q := Lib.hid (bt HB_p.out hb)
  have G_q := Lib.hid (G_p.out.below hb)
  have V_q := Lib.hid (V_p.out.below hb)
  have Z_q := Lib.hid (Z_p.out.below hb)
  have H_q := Lib.hid (H_p.out.below hb)
  have R_q := Lib.hid (R_p.out.below hb)
  have X_q := Lib.hid (X_p.out.below hb)
  have PP_q := Lib.hid (PP_p.out.below hb)
  have M1_q := Lib.hid (M1_p.out.below hb)
  have M2_q := Lib.hid (M2_p.out.below hb)
  clear hb
  have C_q := Lib.hid ho
  clear ho
  go_wp2_with fail
  refine hK.out _ _ (fun _ => ⟨⟨G_q.out.1, G_q.out.2.1, G_q.out.2.2⟩, V_q.out.1, V_q.out.2.1, V_q.out.2.2.1⟩) ?_
  clear hK K'
  (try simp only [Act.put, List.getElem_toArray, List.getElem_cons_succ, List.getElem_cons_zero, List.setIfInBounds_toArray, List.set_cons_zero, List.set_cons_succ])
  refine wpK_take (i := 5) (v := ?_) rfl (by kernel_rfl) (by kernel_rfl) (by kernel_rfl) (by kernel_rfl) (fun _ _ _ h => h) (Or.inl ⟨by kernel_rfl, ?_⟩) ⟨⟨G_q.out.1, G_q.out.2.1, G_q.out.2.2⟩, V_q.out.1, V_q.out.2.1, V_q.out.2.2.1⟩ ?_
  rotate_left 1
  · intro w9 hSw
    (try dsimp only at hSw)
    go_simp
    (try with_reducible rfl)
  (try simp only [Act.put, List.getElem_toArray, List.getElem_cons_succ, List.getElem_cons_zero, List.setIfInBounds_toArray, List.set_cons_zero, List.set_cons_succ])
  refine wpK_one (i := 6) (by kernel_rfl) rfl ?_
  intro K' hK
  obtain ⟨u0, u1, u2, uf⟩ := V_q.out
  have uf0 := uf 0
  clear uf
  go_simp
  refine hK.out _ _ (fun h => absurd rfl h) ?_
  clear hK K'
  (try simp only [Act.put, List.getElem_toArray, List.getElem_cons_succ, List.getElem_cons_zero, List.setIfInBounds_toArray, List.set_cons_zero, List.set_cons_succ])
  refine wpK_done (by kernel_rfl) ?_ _
  have hwq : w.heap.size + 2 < vq.heap.size := Z_q.out.lt
  have hm : Mid (w.heap.size + 1) (w.heap.size + 1 + 1) vq (vq.setCell ⟨w.heap.size + 1, 0, none⟩ (.slice rca cm.length rcc)) := mid_cell _ _ _ _
  have V_r := Lib.hid (V_q.out.set0 (.slice rca cm.length rcc))
  have G_r := Lib.hid (G_q.out.mid hm (.inl (by omega)))
  have Z_r := Lib.hid (Z_q.out.mid hm (.inr (by omega)))
  have H_r := Lib.hid (H_q.out.mid hm (.inl (by omega)))
  have R_r := Lib.hid (R_q.out.mid hm (.inl (by omega)))
  have X_r := Lib.hid (X_q.out.mid hm (by omega))
  have C_r := Lib.hid (C_q.out.mid hm (.inr (by have := Z_p.out.lt; omega)))
  have HB_r := Lib.hid (HB_q.out.trans (hm.toBelow (by omega) (by omega)))
  have M1_r := Lib.hid (M1_q.out.mid hm (by omega))
  have M2_r := Lib.hid (M2_q.out.mid hm (by omega))
  have hcs := C_r.out.2.2.1
  generalize hX2 : vq.setCell ⟨w.heap.size + 1, 0, none⟩ (.slice rca cm.length rcc) = vr at *
  have PP_r := Lib.hid (show InP vr.heap.size vr (pv3 rca cm.length rcc (some ⟨gh, 0, none⟩) dh.length ch (some ⟨gr, 0, none⟩) dr.length cr) ⟨cm, dh, dr⟩ from ⟨_, _, _, rfl, C_r.out.toIn.wide hcs (Nat.le_refl _), H_r.out.toIn.wide H_r.out.2.2.1 (Nat.le_refl _), R_r.out.toIn.wide R_r.out.2.2.1 (Nat.le_refl _)⟩)
  clear hm g0 g1 g2 p0 p1 p2 pf
  obtain ⟨g0, g1, g2⟩ := G_r.out
  obtain ⟨p0, p1, p2, pf⟩ := V_r.out
  go_wp2_with fail
  refine (msLin_any P Q G HG.out s (by omega) f1 (by omega) f3 f4 (p := ⟨cm, dh, dr⟩) (by unfold PrD.n; simp only []; omega) HDI0.out M1_r.out M2_r.out PP_r.out).mono ?_
  rw [HMS.out, HCH.out]
  rintro e vs ⟨rfl, hb⟩
  have HB_s := Lib.hid (HB_r.out.trans (hb.mono HB_r.out.size))
  have G_s := Lib.hid (G_r.out.below hb)
  have V_s := Lib.hid (V_r.out.below hb)
  have Z_s := Lib.hid (Z_r.out.below hb)
  have H_s := Lib.hid (H_r.out.below hb)
  have R_s := Lib.hid (R_r.out.below hb)
  have X_s := Lib.hid (X_r.out.below hb)
  have C_s := Lib.hid (C_r.out.below hb)
  have M1_s := Lib.hid (M1_r.out.below hb)
  have M2_s := Lib.hid (M2_r.out.below hb)
  have hws := Z_s.out.lt
  have hcss := C_s.out.2.2.1
  clear hb g0 g1 g2 p0 p1 p2 pf
  obtain ⟨g0, g1, g2⟩ := G_s.out
  obtain ⟨p0, p1, p2, pf⟩ := V_s.out
  have hwd : 0 < dh.length := by have := HDH.out; omega
  obtain ⟨hc0, hf0⟩ := sown_at H_s.out.1 (j := 0) hwd (z := dh[0]) (by simp [hwd])
  have hcap := own_cap R_s.out.1
  have hcz : ¬ cr = 0 := by have := HDR.out; have := HDH.out; omega
  go_wp2_with fail
  have hm : Mid gh (gh + 1) vs (vs.setCell ⟨gh, 0, none⟩ (.int .i64 c)) := mid_cell _ _ _ _
  have G_t := Lib.hid (G_s.out.mid hm (.inr (by omega)))
  have V_t := Lib.hid (V_s.out.mid hm (.inr (by omega)))
  have Z_t := Lib.hid (Z_s.out.mid hm (.inr (by omega)))
  have H_t := Lib.hid (H_s.out.put (j := 0) c)
  have R_t := Lib.hid (R_s.out.mid hm (.inr (by omega)))
  have X_t := Lib.hid (X_s.out.mid hm (by omega))
  have C_t := Lib.hid (C_s.out.mid hm (.inr (by have := HB_p.out.size; omega)))
  have HB_t := Lib.hid ((HB_s.out.mono (show base ≤ w.heap.size by omega)).trans (hm.toBelow (by omega) (by have := HB_s.out.size; omega)))
  clear g0 g1 g2 p0 p1 p2 pf hc0 hf0
  obtain ⟨g0, g1, g2⟩ := G_t.out
  obtain ⟨p0, p1, p2, pf⟩ := V_t.out
  have hst := hm.size
  generalize hX3 : vs.setCell ⟨gh, 0, none⟩ (.int .i64 c) = vt at *
  clear hm
  have hw0 : IntKind.i64.wrap 0 = 0 := by decide
  have htest := saddMultiple_any Q c M gr 0 dr.length cr dr.length cr dr x1 xs.length x2 xs hq.1 hq.2 hcr.1 hcr.2 HRI0.out HXI.out rfl (by omega) (by omega) (by omega) vt.drew R_t.out.1 (X_t.out.ints).1 (X_t.out.blk (by omega))
  have HT := Lib.hid htest
  clear htest
  go_region_held3 (fun w' => (w'.cell? ⟨w.heap.size, 0, none⟩ = some (.int .i64 P) ∧ w'.cell? ⟨w.heap.size, 1, none⟩ = some (.int .i64 Q) ∧ w'.cell? ⟨w.heap.size, 2, none⟩ = some (.int .i64 G)) ∧ w'.cell? ⟨w.heap.size + 1, 0, none⟩ = some (.slice rca cm.length rcc) ∧ w'.cell? ⟨w.heap.size + 1, 1, none⟩ = some (.slice (some ⟨gh, 0, none⟩) dh.length ch) ∧ w'.cell? ⟨w.heap.size + 1, 2, none⟩ = some (.slice (some ⟨gr, 0, none⟩) dr.length cr)) (first | with_reducible exact ⟨⟨s0, s1, s2⟩, t0, t1, t2⟩ | exact ⟨⟨g0, g1, g2⟩, p0, p1, p2⟩) ((first
    | (go_at_call 108; refine HT.out.mono ?_; rintro e vu ⟨⟨ev, rfl⟩, hown, hgrow⟩; have hm2' : Mid gr (gr + 1) vt vu := (Mid.ofBelow ((Below.refl _ vt).drew)).trans (mid_grow hgrow); have HO := Lib.hid hown; have HMU := Lib.hid hm2'; obtain ⟨s0, s1, s2⟩ := G_t.out.mid hm2' (.inr (by omega)); obtain ⟨t0, t1, t2, _⟩ := V_t.out.mid hm2' (.inr (by omega)); clear hown hgrow hm2')
    | fail))
  all_goals (
    have hm4 := HMU.out
    have V_u := Lib.hid (V_t.out.mid hm4 (.inr (by omega)))
    have Z_u := Lib.hid (Z_t.out.mid hm4 (.inr (by omega)))
    have H_u := Lib.hid (H_t.out.mid hm4 (.inl hgr.1))
    have R_u := Lib.hid (R_t.out.same HO.out (by first | (simp [sxpy_length]; done) | (simp [sxpy_length]; omega)) hm4)
    have C_u := Lib.hid (C_t.out.mid hm4 (.inr (by have := HB_p.out.size; omega)))
    have HB_u := Lib.hid (HB_t.out.trans (hm4.toBelow (by omega) (by have := HB_t.out.size; omega)))
    clear hm4
    obtain ⟨q0, q1, q2, _⟩ := V_u.out
    obtain ⟨y0, y1, y2, yf⟩ := Z_u.out
    have yf0 := yf 0
    have yf1 := yf 1
    have yf2 := yf 2
    clear yf
    have hlu := Z_u.out.lt
    go_wp2
    (try simp only [Exit.inBlock, Exit.then])
    refine bodyPost_ret (v := .tuple #[pv3 rca cm.length rcc (some ⟨gh, 0, none⟩) dh.length ch (some ⟨gr, 0, none⟩) dr.length cr, .bool true]) ?_ rfl ?_
    · rw [results_cell_tmp rfl]; go_simp
    · have hm5 := mid3 vu (w.heap.size + 2) (.slice rca cm.length rcc) (.slice (some ⟨gh, 0, none⟩) dh.length ch) (.slice (some ⟨gr, 0, none⟩) dr.length cr)
      have h1 := H_u.out.mid hm5 (.inl (by omega))
      have h2 := R_u.out.mid hm5 (.inl (by omega))
      have h3 := C_u.out.mid hm5 (.inr (by have := HB_p.out.size; have := Z_p.out.lt; omega))
      rw [List.length_set] at h1
      rw [show (dr.take 0 ++ sxpy Q (dr.drop 0) c xs).length = dr.length by first | (simp [sxpy_length]; done) | (simp [sxpy_length]; omega)] at h2
      exact ⟨_, _, _, rfl, .chain h1 h2 (h3.wide HB_p.out.size h3.2.2.1 (Nat.le_refl _)), HB_u.out.trans (hm5.toBelow (by omega) (by have := HB_u.out.size; omega))⟩)

set_option maxRecDepth 100000 in
set_option maxHeartbeats 6400000 in
theorem completeCho_any (P Q G : Int) (hg : goodB P Q G = true) (s : ByteArray) (hs : s.size ≤ 40) {B1 : Nat} {u1 : Value} {es : List Int} {n4 : Nat} (hn4 : es.length = n4 * 4) {QX PX base gh ch gr cr x2 : Nat} {x1 : Option Addr} {dh dr xs : List Int} {which : Nat} (hok : (St.cho es).ok P Q = true) {w : World} (hu1 : InE B1 w u1 es) (hB12 : B1 ≤ base) (hH : OwI gh (gh + 1) w (.slice (some ⟨gh, 0, none⟩) dh.length ch) dh) (hR : OwI gr (gr + 1) w (.slice (some ⟨gr, 0, none⟩) dr.length cr) dr) (hgn : gh ≠ gr ∧ base ≤ gh ∧ base ≤ gr ∧ gh < w.heap.size ∧ gr < w.heap.size) (hX : KP QX PX (fun w' => IsInts w' x1 xs) w) (hXs : (PX ≤ gh ∨ gh + 1 ≤ QX) ∧ (PX ≤ gr ∨ gr + 1 ≤ QX)) (hXb : xs ≠ [] → ∀ a, x1 = some a → some a.block ≠ some gr)
    (hdh : dh.length = (St.cho es).parts.length) (hdr : dr.length = nCols (St.cho es).parts) (hdi : allIn dh 0 (Q - 1) = true) (hri : allIn dr 0 (Q - 1) = true) (hxi : allIn xs 0 (Q - 1) = true) (hx1 : xs.length = 1) (hwl : which < dh.length) (hwr : which < dr.length) :
    Calls Try.prog 75 #[gv P Q G, .string s, .iface 96 u1, pv3 none 0 0 (some ⟨gh, 0, none⟩) dh.length ch (some ⟨gr, 0, none⟩) dr.length cr, .int .i64 (which : Int), .slice x1 xs.length x2] w (AnsQ base w (cplP P Q G s (St.cho es) dh dr which xs) true) := by
  obtain ⟨y1, yn, y2, rfl, hyn, _, _⟩ := hu1.shape
  obtain ⟨f1, f5, f6, f7, f8⟩ := cho_facts hn4 hok
  have f9 := cho_pos hok
  have hm2 : ∀ (k : Nat) (W : World), (method (k + 1) 96 (.slice y1 yn y2) "loop.example/g00878/impl.parts").run Try.prog W = .ok (170, (.slice y1 yn y2)) W := fun _ _ => by kernel_rfl
  have hfr := f7.1.rows (St.cho es).parts.length (Nat.le_refl _)
  rw [List.take_length] at hfr
  have h8 := f7.1.1
  obtain ⟨hhl, hrl⟩ : dh.length ≤ 8 ∧ dr.length ≤ 64 := by omega
  have hdi0 := all_ex hdi
  obtain ⟨cm, hcm⟩ : ∃ cm, cmts P Q (St.cho es).parts dh dr = cm := ⟨_, rfl⟩
  have hcme : allEl P Q cm = true := hcm ▸ cmts_el hg _ _ _ (fun p hp => ⟨fun r hr => ((f7.2 p hp).1 r hr).2, (f7.2 p hp).2.2⟩) (fun e he => (hdi0 e he).1) hri
  have hcml : cm.length ≤ 64 := by have h9 := cmts_len (P := P) (Q := Q) (St.cho es).parts dh dr (fun q hq => (f7.1.2 q hq).2.1); rw [hcm] at h9; omega
  have hch : chB P Q G s ((St.cho es).els ++ cm) 3 = true := ch_ok hg hs (by rw [List.length_append]; omega) (all_app f6 hcme)
  have hq := (good_rng hg).2.1
  obtain ⟨c, hc⟩ : ∃ c, missV P Q G s (St.cho es) cm dh = c := ⟨_, rfl⟩
  have hcr : 0 ≤ c ∧ c < Q := by
    rw [← hc]; unfold missV
    exact subF_rng (Q := Q) (e := 0) (by omega) ⟨by omega, by omega⟩ dh _ (chX_rng (by omega))
  have hcp : cplP P Q G s (St.cho es) dh dr which xs = ⟨cm, dh.set which c, dr.take (which * xs.length) ++ sxpy Q (dr.drop (which * xs.length)) c xs⟩ := by unfold cplP; simp only [hcm, hc]
  have hms := (msV_on (ch := dh) hch).trans hc
  rw [hcp]
  have HX1 := Lib.hid hx1
  rw [hx1, Nat.mul_one]
  clear hx1
  have HCM := Lib.hid hcm
  have HCH := Lib.hid hch
  have HMS := Lib.hid hms
  have HG := Lib.hid hg
  have F7 := Lib.hid f7
  have HDI := Lib.hid hdi
  have HDI0 := Lib.hid hdi0
  have HRI := Lib.hid hri
  have HRI0 := Lib.hid (all_ex hri)
  have HXI := Lib.hid (all_ex hxi)
  have HDH := Lib.hid hdh
  have HDR := Lib.hid hdr
  obtain ⟨hgne, hgb, hrb, hgw, hrw⟩ := hgn
  have hPX := hX.1
  have HXB := Lib.hid hXb
  clear hXb
  clear hcm hch hms hg f6 f7 hdi hdi0 hri hxi hcme hc hcp hfr hok hdh hdr
  have G_0 := Lib.hid (((gr_new w P Q G 32).below (ba _ (.cells #[.slice none 0 0, .slice (some ⟨gh, 0, none⟩) dh.length ch, .slice (some ⟨gr, 0, none⟩) dr.length cr] 36))).below (ba _ (.cells #[.slice none 0 0, .slice none 0 0, .slice none 0 0] 36)))
  have hv := (b3_new (w.alloc (.cells #[.int .i64 P, .int .i64 Q, .int .i64 G] 32)) (.slice none 0 0) (.slice (some ⟨gh, 0, none⟩) dh.length ch) (.slice (some ⟨gr, 0, none⟩) dr.length cr) 36).below (ba _ (.cells #[.slice none 0 0, .slice none 0 0, .slice none 0 0] 36))
  rw [show (w.alloc (.cells #[.int .i64 P, .int .i64 Q, .int .i64 G] 32)).heap.size = w.heap.size + 1 by simp] at hv
  have V_0 := Lib.hid hv
  have hz := b3_new ((w.alloc (.cells #[.int .i64 P, .int .i64 Q, .int .i64 G] 32)).alloc (.cells #[.slice none 0 0, .slice (some ⟨gh, 0, none⟩) dh.length ch, .slice (some ⟨gr, 0, none⟩) dr.length cr] 36)) (.slice none 0 0) (.slice none 0 0) (.slice none 0 0) 36
  rw [show ((w.alloc (.cells #[.int .i64 P, .int .i64 Q, .int .i64 G] 32)).alloc (.cells #[.slice none 0 0, .slice (some ⟨gh, 0, none⟩) dh.length ch, .slice (some ⟨gr, 0, none⟩) dr.length cr] 36)).heap.size = w.heap.size + 2 by simp] at hz
  have Z_0 := Lib.hid hz
  have HB_0 := Lib.hid (bt (bt (ba w (.cells #[.int .i64 P, .int .i64 Q, .int .i64 G] 32)) (ba _ (.cells #[.slice none 0 0, .slice (some ⟨gh, 0, none⟩) dh.length ch, .slice (some ⟨gr, 0, none⟩) dr.length cr] 36))) (ba _ (.cells #[.slice none 0 0, .slice none 0 0, .slice none 0 0] 36)))
  have H_0 := Lib.hid (hH.below HB_0.out)
  have R_0 := Lib.hid (hR.below HB_0.out)
  have X_0 := Lib.hid (hX.below HB_0.out)
  have M1_0 := Lib.hid (hu1.below HB_0.out)
  clear hv hz hH hR hX hu1
  obtain ⟨W, hW⟩ : ∃ W, ((w.alloc (.cells #[.int .i64 P, .int .i64 Q, .int .i64 G] 32)).alloc (.cells #[.slice none 0 0, .slice (some ⟨gh, 0, none⟩) dh.length ch, .slice (some ⟨gr, 0, none⟩) dr.length cr] 36)).alloc (.cells #[.slice none 0 0, .slice none 0 0, .slice none 0 0] 36) = W := ⟨_, rfl⟩
  rw [hW] at HB_0 G_0 V_0 Z_0 H_0 R_0 X_0 M1_0
  have PP_0 := Lib.hid (show InP W.heap.size W (pv3 none 0 0 (some ⟨gh, 0, none⟩) dh.length ch (some ⟨gr, 0, none⟩) dr.length cr) ⟨[], dh, dr⟩ from ⟨_, _, _, rfl, InI.of (.inl rfl) (fun _ => rfl) (Nat.le_refl _), H_0.out.toIn.wide (by have := HB_0.out.size; omega) (Nat.le_refl _), R_0.out.toIn.wide (by have := HB_0.out.size; omega) (Nat.le_refl _)⟩)
  obtain ⟨g0, g1, g2⟩ := G_0.out
  obtain ⟨p0, p1, p2, pf⟩ := V_0.out
  go_enter Try.func75, Try.ntmps75
  go_wp2_with fail
  clear hW
  refine wpK_begin (n := 6) (S := (fun w' => (w'.cell? ⟨w.heap.size, 0, none⟩ = some (.int .i64 P) ∧ w'.cell? ⟨w.heap.size, 1, none⟩ = some (.int .i64 Q) ∧ w'.cell? ⟨w.heap.size, 2, none⟩ = some (.int .i64 G)) ∧ w'.cell? ⟨w.heap.size + 1, 0, none⟩ = some (.slice none 0 0) ∧ w'.cell? ⟨w.heap.size + 1, 1, none⟩ = some (.slice (some ⟨gh, 0, none⟩) dh.length ch) ∧ w'.cell? ⟨w.heap.size + 1, 2, none⟩ = some (.slice (some ⟨gr, 0, none⟩) dr.length cr))) (by kernel_rfl) ?_
  refine wpK_take (i := 0) (v := ?_) rfl (by kernel_rfl) (by kernel_rfl) (by kernel_rfl) (by kernel_rfl) (fun _ _ _ h => h) (Or.inl ⟨by kernel_rfl, ?_⟩) (show _ from ⟨⟨G_0.out.1, G_0.out.2.1, G_0.out.2.2⟩, V_0.out.1, V_0.out.2.1, V_0.out.2.2.1⟩) ?_
  rotate_left 1
  · intro w9 hSw
    (try dsimp only at hSw)
    go_simp
    (try with_reducible rfl)
  (try simp only [Act.put, List.getElem_toArray, List.getElem_cons_succ, List.getElem_cons_zero, List.setIfInBounds_toArray, List.set_cons_zero, List.set_cons_succ])
  refine wpK_take (i := 1) (v := ?_) rfl (by kernel_rfl) (by kernel_rfl) (by kernel_rfl) (by kernel_rfl) (fun _ _ _ h => h) (Or.inl ⟨by kernel_rfl, ?_⟩) (show _ from ⟨⟨G_0.out.1, G_0.out.2.1, G_0.out.2.2⟩, V_0.out.1, V_0.out.2.1, V_0.out.2.2.1⟩) ?_
  rotate_left 1
  · intro w9 hSw
    (try dsimp only at hSw)
    go_simp
    (try with_reducible rfl)
  (try simp only [Act.put, List.getElem_toArray, List.getElem_cons_succ, List.getElem_cons_zero, List.setIfInBounds_toArray, List.set_cons_zero, List.set_cons_succ])
  refine wpK_take (i := 3) (v := ?_) rfl (by kernel_rfl) (by kernel_rfl) (by kernel_rfl) (by kernel_rfl) (fun _ _ _ h => h) (Or.inl ⟨by kernel_rfl, ?_⟩) (show _ from ⟨⟨G_0.out.1, G_0.out.2.1, G_0.out.2.2⟩, V_0.out.1, V_0.out.2.1, V_0.out.2.2.1⟩) ?_
  rotate_left 1
  · intro w9 hSw
    (try dsimp only at hSw)
    go_simp
    (try with_reducible rfl)
  (try simp only [Act.put, List.getElem_toArray, List.getElem_cons_succ, List.getElem_cons_zero, List.setIfInBounds_toArray, List.set_cons_zero, List.set_cons_succ])
  refine wpK_one (i := 2) (by kernel_rfl) rfl ?_
  intro K' hK
  go_simp
  go_at_call 170
  refine (choParts_any f1 M1_0.out.dr).mono ?_
  rintro e vp ⟨rp, rfl, hL, hb0⟩
  obtain ⟨lg, lc, rfl, _⟩ := id hL
  have hb : Below W.heap.size W vp := bt ((Below.refl _ W).drew) hb0
  clear hb0
  have HB_p := Lib.hid (bt HB_0.out hb)
  have G_p := Lib.hid (G_0.out.below hb)
  have V_p := Lib.hid (V_0.out.below hb)
  have Z_p := Lib.hid (Z_0.out.below hb)
  have H_p := Lib.hid (H_0.out.below hb)
  have R_p := Lib.hid (R_0.out.below hb)
  have X_p := Lib.hid (X_0.out.below hb)
  have PP_p := Lib.hid (PP_0.out.below hb)
  have M1_p := Lib.hid (M1_0.out.below hb)
  clear hb
  have L_p := Lib.hid hL
  clear hL
  go_wp2_with fail
  refine hK.out _ _ (fun _ => ⟨⟨G_p.out.1, G_p.out.2.1, G_p.out.2.2⟩, V_p.out.1, V_p.out.2.1, V_p.out.2.2.1⟩) ?_
  clear hK K'
  (try simp only [Act.put, List.getElem_toArray, List.getElem_cons_succ, List.getElem_cons_zero, List.setIfInBounds_toArray, List.set_cons_zero, List.set_cons_succ])
  refine wpK_one (i := 4) (by kernel_rfl) rfl ?_
  intro K' hK
  go_simp
  go_at_call 106
  refine (commitsOf_any P Q G HG.out F7.out f8 HDH.out HDR.out HDI.out HRI.out L_p.out PP_p.out).mono ?_
  rw [HCM.out]
  rintro e vq ⟨rc, rfl, ho, hb⟩
  obtain ⟨rca, rcc, rfl⟩ := ho.toIn.shape
  have HB_q := Lib.hid (bt HB_p.out hb)
  have G_q := Lib.hid (G_p.out.below hb)
  have V_q := Lib.hid (V_p.out.below hb)
  have Z_q := Lib.hid (Z_p.out.below hb)
  have H_q := Lib.hid (H_p.out.below hb)
  have R_q := Lib.hid (R_p.out.below hb)
  have X_q := Lib.hid (X_p.out.below hb)
  have PP_q := Lib.hid (PP_p.out.below hb)
  have M1_q := Lib.hid (M1_p.out.below hb)
  clear hb
  have C_q := Lib.hid ho
  clear ho
  go_wp2_with fail
  refine hK.out _ _ (fun _ => ⟨⟨G_q.out.1, G_q.out.2.1, G_q.out.2.2⟩, V_q.out.1, V_q.out.2.1, V_q.out.2.2.1⟩) ?_
  clear hK K'
  (try simp only [Act.put, List.getElem_toArray, List.getElem_cons_succ, List.getElem_cons_zero, List.setIfInBounds_toArray, List.set_cons_zero, List.set_cons_succ])
  refine wpK_take (i := 5) (v := ?_) rfl (by kernel_rfl) (by kernel_rfl) (by kernel_rfl) (by kernel_rfl) (fun _ _ _ h => h) (Or.inl ⟨by kernel_rfl, ?_⟩) ⟨⟨G_q.out.1, G_q.out.2.1, G_q.out.2.2⟩, V_q.out.1, V_q.out.2.1, V_q.out.2.2.1⟩ ?_
  rotate_left 1
  · intro w9 hSw
    (try dsimp only at hSw)
    go_simp
    (try with_reducible rfl)
  (try simp only [Act.put, List.getElem_toArray, List.getElem_cons_succ, List.getElem_cons_zero, List.setIfInBounds_toArray, List.set_cons_zero, List.set_cons_succ])
  refine wpK_one (i := 6) (by kernel_rfl) rfl ?_
  intro K' hK
  obtain ⟨u0, u1, u2, uf⟩ := V_q.out
  have uf0 := uf 0
  clear uf
  go_simp
  refine hK.out _ _ (fun h => absurd rfl h) ?_
  clear hK K'
  (try simp only [Act.put, List.getElem_toArray, List.getElem_cons_succ, List.getElem_cons_zero, List.setIfInBounds_toArray, List.set_cons_zero, List.set_cons_succ])
  refine wpK_done (by kernel_rfl) ?_ _
  have hwq : w.heap.size + 2 < vq.heap.size := Z_q.out.lt
  have hm : Mid (w.heap.size + 1) (w.heap.size + 1 + 1) vq (vq.setCell ⟨w.heap.size + 1, 0, none⟩ (.slice rca cm.length rcc)) := mid_cell _ _ _ _
  have V_r := Lib.hid (V_q.out.set0 (.slice rca cm.length rcc))
  have G_r := Lib.hid (G_q.out.mid hm (.inl (by omega)))
  have Z_r := Lib.hid (Z_q.out.mid hm (.inr (by omega)))
  have H_r := Lib.hid (H_q.out.mid hm (.inl (by omega)))
  have R_r := Lib.hid (R_q.out.mid hm (.inl (by omega)))
  have X_r := Lib.hid (X_q.out.mid hm (by omega))
  have C_r := Lib.hid (C_q.out.mid hm (.inr (by have := Z_p.out.lt; omega)))
  have HB_r := Lib.hid (HB_q.out.trans (hm.toBelow (by omega) (by omega)))
  have M1_r := Lib.hid (M1_q.out.mid hm (by omega))
  have hcs := C_r.out.2.2.1
  generalize hX2 : vq.setCell ⟨w.heap.size + 1, 0, none⟩ (.slice rca cm.length rcc) = vr at *
  have PP_r := Lib.hid (show InP vr.heap.size vr (pv3 rca cm.length rcc (some ⟨gh, 0, none⟩) dh.length ch (some ⟨gr, 0, none⟩) dr.length cr) ⟨cm, dh, dr⟩ from ⟨_, _, _, rfl, C_r.out.toIn.wide hcs (Nat.le_refl _), H_r.out.toIn.wide H_r.out.2.2.1 (Nat.le_refl _), R_r.out.toIn.wide R_r.out.2.2.1 (Nat.le_refl _)⟩)
  clear hm g0 g1 g2 p0 p1 p2 pf
  obtain ⟨g0, g1, g2⟩ := G_r.out
  obtain ⟨p0, p1, p2, pf⟩ := V_r.out
  go_wp2_with fail
  refine (msCho_any P Q G HG.out s (by omega) f1 f9 (p := ⟨cm, dh, dr⟩) (by unfold PrD.n; simp only []; omega) HDI0.out M1_r.out PP_r.out).mono ?_
  rw [HMS.out, HCH.out]
  rintro e vs ⟨rfl, hb⟩
  have HB_s := Lib.hid (HB_r.out.trans (hb.mono HB_r.out.size))
  have G_s := Lib.hid (G_r.out.below hb)
  have V_s := Lib.hid (V_r.out.below hb)
  have Z_s := Lib.hid (Z_r.out.below hb)
  have H_s := Lib.hid (H_r.out.below hb)
  have R_s := Lib.hid (R_r.out.below hb)
  have X_s := Lib.hid (X_r.out.below hb)
  have C_s := Lib.hid (C_r.out.below hb)
  have M1_s := Lib.hid (M1_r.out.below hb)
  have hws := Z_s.out.lt
  have hcss := C_s.out.2.2.1
  clear hb g0 g1 g2 p0 p1 p2 pf
  obtain ⟨g0, g1, g2⟩ := G_s.out
  obtain ⟨p0, p1, p2, pf⟩ := V_s.out
  have hwd : which < dh.length := hwl
  obtain ⟨hc0, hf0⟩ := sown_at H_s.out.1 (j := which) hwd (z := dh[which]) (by simp [hwd])
  have hwi : (which : Int) < (dh.length : Int) := by omega
  have hcap := own_cap R_s.out.1
  have hcz : ¬ cr = which := by have := HDR.out; have := HDH.out; omega
  go_wp2_with fail
  have hm : Mid gh (gh + 1) vs (vs.setCell ⟨gh, which, none⟩ (.int .i64 c)) := mid_cell _ _ _ _
  have G_t := Lib.hid (G_s.out.mid hm (.inr (by omega)))
  have V_t := Lib.hid (V_s.out.mid hm (.inr (by omega)))
  have Z_t := Lib.hid (Z_s.out.mid hm (.inr (by omega)))
  have H_t := Lib.hid (H_s.out.put (j := which) c)
  have R_t := Lib.hid (R_s.out.mid hm (by omega))
  have X_t := Lib.hid (X_s.out.mid hm (by omega))
  have C_t := Lib.hid (C_s.out.mid hm (.inr (by have := HB_p.out.size; omega)))
  have HB_t := Lib.hid ((HB_s.out.mono (show base ≤ w.heap.size by omega)).trans (hm.toBelow (by omega) (by have := HB_s.out.size; omega)))
  clear g0 g1 g2 p0 p1 p2 pf hc0 hf0
  obtain ⟨g0, g1, g2⟩ := G_t.out
  obtain ⟨p0, p1, p2, pf⟩ := V_t.out
  have hst := hm.size
  generalize hX3 : vs.setCell ⟨gh, which, none⟩ (.int .i64 c) = vt at *
  clear hm
  have hw0 : IntKind.i64.wrap (which : Int) = (which : Int) := by rw [IntKind.wrap_i64]; omega
  have hw1 : IntKind.i64.wrap ((which : Int) * 1) = (which : Int) := by rw [Int.mul_one]; exact hw0
  have hb0 : (0 : Int) ≤ (which : Int) := by omega
  have hb1 : (which : Int) ≤ (dr.length : Int) := by omega
  have htest := saddMultiple_any Q c gr gr which (dr.length - which) (cr - which) dr.length cr dr x1 1 x2 xs hq.1 hq.2 hcr.1 hcr.2 HRI0.out HXI.out HX1.out (by omega) (by omega) (by omega) vt.drew R_t.out.1 X_t.out.out HXB.out
  have HT := Lib.hid htest
  clear htest
  go_region_held3 (fun w' => (w'.cell? ⟨w.heap.size, 0, none⟩ = some (.int .i64 P) ∧ w'.cell? ⟨w.heap.size, 1, none⟩ = some (.int .i64 Q) ∧ w'.cell? ⟨w.heap.size, 2, none⟩ = some (.int .i64 G)) ∧ w'.cell? ⟨w.heap.size + 1, 0, none⟩ = some (.slice rca cm.length rcc) ∧ w'.cell? ⟨w.heap.size + 1, 1, none⟩ = some (.slice (some ⟨gh, 0, none⟩) dh.length ch) ∧ w'.cell? ⟨w.heap.size + 1, 2, none⟩ = some (.slice (some ⟨gr, 0, none⟩) dr.length cr)) (first | with_reducible exact ⟨⟨s0, s1, s2⟩, t0, t1, t2⟩ | exact ⟨⟨g0, g1, g2⟩, p0, p1, p2⟩) ((first
    | (go_at_call 108; refine HT.out.mono ?_; rintro e vu ⟨⟨ev, rfl⟩, hown, hgrow⟩; have hm2' : Mid gr (gr + 1) vt vu := (Mid.ofBelow ((Below.refl _ vt).drew)).trans (mid_grow hgrow); have HO := Lib.hid hown; have HMU := Lib.hid hm2'; obtain ⟨s0, s1, s2⟩ := G_t.out.mid hm2' (.inr (by omega)); obtain ⟨t0, t1, t2, _⟩ := V_t.out.mid hm2' (.inr (by omega)); clear hown hgrow hm2')
    | fail))
  all_goals (
    have hm4 := HMU.out
    have V_u := Lib.hid (V_t.out.mid hm4 (.inr (by omega)))
    have Z_u := Lib.hid (Z_t.out.mid hm4 (.inr (by omega)))
    have H_u := Lib.hid (H_t.out.mid hm4 (by omega))
    have R_u := Lib.hid (R_t.out.same HO.out (by first | (simp [sxpy_length]; done) | (simp [sxpy_length]; omega)) hm4)
    have C_u := Lib.hid (C_t.out.mid hm4 (.inr (by have := HB_p.out.size; omega)))
    have HB_u := Lib.hid (HB_t.out.trans (hm4.toBelow (by omega) (by have := HB_t.out.size; omega)))
    clear hm4
    obtain ⟨q0, q1, q2, _⟩ := V_u.out
    obtain ⟨y0, y1, y2, yf⟩ := Z_u.out
    have yf0 := yf 0
    have yf1 := yf 1
    have yf2 := yf 2
    clear yf
    have hlu := Z_u.out.lt
    go_wp2
    (try simp only [Exit.inBlock, Exit.then])
    refine bodyPost_ret (v := .tuple #[pv3 rca cm.length rcc (some ⟨gh, 0, none⟩) dh.length ch (some ⟨gr, 0, none⟩) dr.length cr, .bool true]) ?_ rfl ?_
    · rw [results_cell_tmp rfl]; go_simp
    · have hm5 := mid3 vu (w.heap.size + 2) (.slice rca cm.length rcc) (.slice (some ⟨gh, 0, none⟩) dh.length ch) (.slice (some ⟨gr, 0, none⟩) dr.length cr)
      have h1 := H_u.out.mid hm5 (.inl (by omega))
      have h2 := R_u.out.mid hm5 (.inl (by omega))
      have h3 := C_u.out.mid hm5 (.inr (by have := HB_p.out.size; have := Z_p.out.lt; omega))
      rw [List.length_set] at h1
      rw [show (dr.take which ++ sxpy Q (dr.drop which) c xs).length = dr.length by first | (simp [sxpy_length]; done) | (simp [sxpy_length]; omega)] at h2
      exact ⟨_, _, _, rfl, ⟨_, _, _, gh, gh + 1, gr, gr + 1, w.heap.size, _, rfl, h1, h2, h3.wide HB_p.out.size h3.2.2.1 (Nat.le_refl _), ⟨⟨hgb, Nat.le_trans h1.2.2.1 (Nat.le_refl _)⟩, ⟨hrb, h2.2.2.1⟩, ⟨by omega, Nat.le_refl _⟩, Nat.le_refl _⟩, by omega, by omega, by omega⟩, HB_u.out.trans (hm5.toBelow (by omega) (by have := HB_u.out.size; omega))⟩)

set_option maxRecDepth 100000 in
set_option maxHeartbeats 6400000 in
theorem completeLin_off (P Q G : Int) (hg : goodB P Q G = true) (s : ByteArray) (hs : 40 < s.size) (hsm : s.size ≤ 1048576) {B1 B2 : Nat} {u1 u2 : Value} {rows : List (List Int)} {im : List Int} {B3 base M gh ch gr cr x2 : Nat} {x1 : Option Addr} {dh dr xs : List Int} (hok : (St.lin rows im).ok P Q = true) {w : World} (hu1 : InS B1 w u1 rows) (hu2 : InI B2 w u2 im) (hB12 : B1 ≤ base ∧ B2 ≤ base) (hH : OwI base M w (.slice (some ⟨gh, 0, none⟩) dh.length ch) dh) (hR : OwI M w.heap.size w (.slice (some ⟨gr, 0, none⟩) dr.length cr) dr) (hX : InI B3 w (.slice x1 xs.length x2) xs) (hB3 : B3 ≤ base)
    (hdh : dh.length = (St.lin rows im).parts.length) (hdr : dr.length = nCols (St.lin rows im).parts) (hdi : allIn dh 0 (Q - 1) = true) (hri : allIn dr 0 (Q - 1) = true) (hxi : allIn xs 0 (Q - 1) = true) (hxl : xs.length ≤ dr.length) (hdp : 0 < dr.length) :
    Calls Try.prog 75 #[gv P Q G, .string s, .iface 90 (.agg #[u1, u2]), pv3 none 0 0 (some ⟨gh, 0, none⟩) dh.length ch (some ⟨gr, 0, none⟩) dr.length cr, .int .i64 0, .slice x1 xs.length x2] w (AnsQ base w nilP false) := by
  obtain ⟨y1, y2, rfl⟩ := hu1.shape
  obtain ⟨z1, z2, rfl⟩ := hu2.shape
  obtain ⟨⟨f1, f2, f3, f4⟩, f5, f6, f7, f8⟩ := lin_facts hok
  have hm2 : ∀ (k : Nat) (W : World), (method (k + 1) 90 (.agg #[.slice y1 rows.length y2, .slice z1 im.length z2]) "loop.example/g00878/impl.parts").run Try.prog W = .ok (168, (.agg #[.slice y1 rows.length y2, .slice z1 im.length z2])) W := fun _ _ => by kernel_rfl
  have hfr := f7.1.rows (St.lin rows im).parts.length (Nat.le_refl _)
  rw [List.take_length] at hfr
  have h8 := f7.1.1
  obtain ⟨hhl, hrl⟩ : dh.length ≤ 8 ∧ dr.length ≤ 64 := by omega
  have hdi0 := all_ex hdi
  obtain ⟨cm, hcm⟩ : ∃ cm, cmts P Q (St.lin rows im).parts dh dr = cm := ⟨_, rfl⟩
  have hcme : allEl P Q cm = true := hcm ▸ cmts_el hg _ _ _ (fun p hp => ⟨fun r hr => ((f7.2 p hp).1 r hr).2, (f7.2 p hp).2.2⟩) (fun e he => (hdi0 e he).1) hri
  have hcml : cm.length ≤ 64 := by have h9 := cmts_len (P := P) (Q := Q) (St.lin rows im).parts dh dr (fun q hq => (f7.1.2 q hq).2.1); rw [hcm] at h9; omega
  have hch : chB P Q G s ((St.lin rows im).els ++ cm) 3 = false := by rw [← Bool.not_eq_true]; intro h; have h2 := labB_true.1 (chB_true.1 h).2.1; omega
  have hq := (good_rng hg).2.1
  have hms : msV P Q G s (St.lin rows im).els cm dh = 0 := by simp [msV, hch]
  have HCM := Lib.hid hcm
  have HCH := Lib.hid hch
  have HMS := Lib.hid hms
  have HG := Lib.hid hg
  have F7 := Lib.hid f7
  have HDI := Lib.hid hdi
  have HDI0 := Lib.hid hdi0
  have HRI := Lib.hid hri
  have HRI0 := Lib.hid (all_ex hri)
  have HXI := Lib.hid (all_ex hxi)
  have HDH := Lib.hid hdh
  have HDR := Lib.hid hdr
  have hgh := hH.gblk
  have hgr := hR.gblk
  have hMw := hR.2.2.2
  clear hcm hch hms hg f6 f7 hdi hdi0 hri hxi hcme hfr hok hdh hdr
  have G_0 := Lib.hid (((gr_new w P Q G 32).below (ba _ (.cells #[.slice none 0 0, .slice (some ⟨gh, 0, none⟩) dh.length ch, .slice (some ⟨gr, 0, none⟩) dr.length cr] 36))).below (ba _ (.cells #[.slice none 0 0, .slice none 0 0, .slice none 0 0] 36)))
  have hv := (b3_new (w.alloc (.cells #[.int .i64 P, .int .i64 Q, .int .i64 G] 32)) (.slice none 0 0) (.slice (some ⟨gh, 0, none⟩) dh.length ch) (.slice (some ⟨gr, 0, none⟩) dr.length cr) 36).below (ba _ (.cells #[.slice none 0 0, .slice none 0 0, .slice none 0 0] 36))
  rw [show (w.alloc (.cells #[.int .i64 P, .int .i64 Q, .int .i64 G] 32)).heap.size = w.heap.size + 1 by simp] at hv
  have V_0 := Lib.hid hv
  have hz := b3_new ((w.alloc (.cells #[.int .i64 P, .int .i64 Q, .int .i64 G] 32)).alloc (.cells #[.slice none 0 0, .slice (some ⟨gh, 0, none⟩) dh.length ch, .slice (some ⟨gr, 0, none⟩) dr.length cr] 36)) (.slice none 0 0) (.slice none 0 0) (.slice none 0 0) 36
  rw [show ((w.alloc (.cells #[.int .i64 P, .int .i64 Q, .int .i64 G] 32)).alloc (.cells #[.slice none 0 0, .slice (some ⟨gh, 0, none⟩) dh.length ch, .slice (some ⟨gr, 0, none⟩) dr.length cr] 36)).heap.size = w.heap.size + 2 by simp] at hz
  have Z_0 := Lib.hid hz
  have HB_0 := Lib.hid (bt (bt (ba w (.cells #[.int .i64 P, .int .i64 Q, .int .i64 G] 32)) (ba _ (.cells #[.slice none 0 0, .slice (some ⟨gh, 0, none⟩) dh.length ch, .slice (some ⟨gr, 0, none⟩) dr.length cr] 36))) (ba _ (.cells #[.slice none 0 0, .slice none 0 0, .slice none 0 0] 36)))
  have H_0 := Lib.hid (hH.below HB_0.out)
  have R_0 := Lib.hid (hR.below HB_0.out)
  have X_0 := Lib.hid (hX.below HB_0.out)
  have M1_0 := Lib.hid (hu1.below HB_0.out)
  have M2_0 := Lib.hid (hu2.below HB_0.out)
  clear hv hz hH hR hX hu1 hu2
  obtain ⟨W, hW⟩ : ∃ W, ((w.alloc (.cells #[.int .i64 P, .int .i64 Q, .int .i64 G] 32)).alloc (.cells #[.slice none 0 0, .slice (some ⟨gh, 0, none⟩) dh.length ch, .slice (some ⟨gr, 0, none⟩) dr.length cr] 36)).alloc (.cells #[.slice none 0 0, .slice none 0 0, .slice none 0 0] 36) = W := ⟨_, rfl⟩
  rw [hW] at HB_0 G_0 V_0 Z_0 H_0 R_0 X_0 M1_0 M2_0
  have PP_0 := Lib.hid (show InP W.heap.size W (pv3 none 0 0 (some ⟨gh, 0, none⟩) dh.length ch (some ⟨gr, 0, none⟩) dr.length cr) ⟨[], dh, dr⟩ from ⟨_, _, _, rfl, InI.of (.inl rfl) (fun _ => rfl) (Nat.le_refl _), H_0.out.toIn.wide (by have := HB_0.out.size; omega) (Nat.le_refl _), R_0.out.toIn.wide HB_0.out.size (Nat.le_refl _)⟩)
  obtain ⟨g0, g1, g2⟩ := G_0.out
  obtain ⟨p0, p1, p2, pf⟩ := V_0.out
  go_enter Try.func75, Try.ntmps75
  go_wp2_with fail
  clear hW
  refine wpK_begin (n := 6) (S := (fun w' => (w'.cell? ⟨w.heap.size, 0, none⟩ = some (.int .i64 P) ∧ w'.cell? ⟨w.heap.size, 1, none⟩ = some (.int .i64 Q) ∧ w'.cell? ⟨w.heap.size, 2, none⟩ = some (.int .i64 G)) ∧ w'.cell? ⟨w.heap.size + 1, 0, none⟩ = some (.slice none 0 0) ∧ w'.cell? ⟨w.heap.size + 1, 1, none⟩ = some (.slice (some ⟨gh, 0, none⟩) dh.length ch) ∧ w'.cell? ⟨w.heap.size + 1, 2, none⟩ = some (.slice (some ⟨gr, 0, none⟩) dr.length cr))) (by kernel_rfl) ?_
  refine wpK_take (i := 0) (v := ?_) rfl (by kernel_rfl) (by kernel_rfl) (by kernel_rfl) (by kernel_rfl) (fun _ _ _ h => h) (Or.inl ⟨by kernel_rfl, ?_⟩) (show _ from ⟨⟨G_0.out.1, G_0.out.2.1, G_0.out.2.2⟩, V_0.out.1, V_0.out.2.1, V_0.out.2.2.1⟩) ?_
  rotate_left 1
  · intro w9 hSw
    (try dsimp only at hSw)
    go_simp
    (try with_reducible rfl)
  (try simp only [Act.put, List.getElem_toArray, List.getElem_cons_succ, List.getElem_cons_zero, List.setIfInBounds_toArray, List.set_cons_zero, List.set_cons_succ])
  refine wpK_take (i := 1) (v := ?_) rfl (by kernel_rfl) (by kernel_rfl) (by kernel_rfl) (by kernel_rfl) (fun _ _ _ h => h) (Or.inl ⟨by kernel_rfl, ?_⟩) (show _ from ⟨⟨G_0.out.1, G_0.out.2.1, G_0.out.2.2⟩, V_0.out.1, V_0.out.2.1, V_0.out.2.2.1⟩) ?_
  rotate_left 1
  · intro w9 hSw
    (try dsimp only at hSw)
    go_simp
    (try with_reducible rfl)
  (try simp only [Act.put, List.getElem_toArray, List.getElem_cons_succ, List.getElem_cons_zero, List.setIfInBounds_toArray, List.set_cons_zero, List.set_cons_succ])
  refine wpK_take (i := 3) (v := ?_) rfl (by kernel_rfl) (by kernel_rfl) (by kernel_rfl) (by kernel_rfl) (fun _ _ _ h => h) (Or.inl ⟨by kernel_rfl, ?_⟩) (show _ from ⟨⟨G_0.out.1, G_0.out.2.1, G_0.out.2.2⟩, V_0.out.1, V_0.out.2.1, V_0.out.2.2.1⟩) ?_
  rotate_left 1
  · intro w9 hSw
    (try dsimp only at hSw)
    go_simp
    (try with_reducible rfl)
  (try simp only [Act.put, List.getElem_toArray, List.getElem_cons_succ, List.getElem_cons_zero, List.setIfInBounds_toArray, List.set_cons_zero, List.set_cons_succ])
  refine wpK_one (i := 2) (by kernel_rfl) rfl ?_
  intro K' hK
  go_simp
  go_at_call 168
  refine (linParts_any M1_0.out.dr M2_0.out.dr).mono ?_
  rintro e vp ⟨rp, rfl, hL, hb0⟩
  obtain ⟨lg, lc, rfl, _⟩ := id hL
  have hb : Below W.heap.size W vp := bt ((Below.refl _ W).drew) hb0
  clear hb0
  have HB_p := Lib.hid (bt HB_0.out hb)
  have G_p := Lib.hid (G_0.out.below hb)
  have V_p := Lib.hid (V_0.out.below hb)
  have Z_p := Lib.hid (Z_0.out.below hb)
  have H_p := Lib.hid (H_0.out.below hb)
  have R_p := Lib.hid (R_0.out.below hb)
  have X_p := Lib.hid (X_0.out.below hb)
  have PP_p := Lib.hid (PP_0.out.below hb)
  have M1_p := Lib.hid (M1_0.out.below hb)
  have M2_p := Lib.hid (M2_0.out.below hb)
  clear hb
  have L_p := Lib.hid hL
  clear hL
  go_wp2_with fail
  refine hK.out _ _ (fun _ => ⟨⟨G_p.out.1, G_p.out.2.1, G_p.out.2.2⟩, V_p.out.1, V_p.out.2.1, V_p.out.2.2.1⟩) ?_
  clear hK K'
  (try simp only [Act.put, List.getElem_toArray, List.getElem_cons_succ, List.getElem_cons_zero, List.setIfInBounds_toArray, List.set_cons_zero, List.set_cons_succ])
  refine wpK_one (i := 4) (by kernel_rfl) rfl ?_
  intro K' hK
  go_simp
  go_at_call 106
  refine (commitsOf_any P Q G HG.out F7.out f8 HDH.out HDR.out HDI.out HRI.out L_p.out PP_p.out).mono ?_
  rw [HCM.out]
  rintro e vq ⟨rc, rfl, ho, hb⟩
  obtain ⟨rca, rcc, rfl⟩ := ho.toIn.shape
  have HB_q := Lib.hid (bt HB_p.out hb)
  have G_q := Lib.hid (G_p.out.below hb)
  have V_q := Lib.hid (V_p.out.below hb)
  have Z_q := Lib.hid (Z_p.out.below hb)
  have H_q := Lib.hid (H_p.out.below hb)
  have R_q := Lib.hid (R_p.out.below hb)
  have X_q := Lib.hid (X_p.out.below hb)
  have PP_q := Lib.hid (PP_p.out.below hb)
  have M1_q := Lib.hid (M1_p.out.below hb)
  have M2_q := Lib.hid (M2_p.out.below hb)
  clear hb
  have C_q := Lib.hid ho
  clear ho
  go_wp2_with fail
  refine hK.out _ _ (fun _ => ⟨⟨G_q.out.1, G_q.out.2.1, G_q.out.2.2⟩, V_q.out.1, V_q.out.2.1, V_q.out.2.2.1⟩) ?_
  clear hK K'
  (try simp only [Act.put, List.getElem_toArray, List.getElem_cons_succ, List.getElem_cons_zero, List.setIfInBounds_toArray, List.set_cons_zero, List.set_cons_succ])
  refine wpK_take (i := 5) (v := ?_) rfl (by kernel_rfl) (by kernel_rfl) (by kernel_rfl) (by kernel_rfl) (fun _ _ _ h => h) (Or.inl ⟨by kernel_rfl, ?_⟩) ⟨⟨G_q.out.1, G_q.out.2.1, G_q.out.2.2⟩, V_q.out.1, V_q.out.2.1, V_q.out.2.2.1⟩ ?_
  rotate_left 1
  · intro w9 hSw
    (try dsimp only at hSw)
    go_simp
    (try with_reducible rfl)
  (try simp only [Act.put, List.getElem_toArray, List.getElem_cons_succ, List.getElem_cons_zero, List.setIfInBounds_toArray, List.set_cons_zero, List.set_cons_succ])
  refine wpK_one (i := 6) (by kernel_rfl) rfl ?_
  intro K' hK
  obtain ⟨u0, u1, u2, uf⟩ := V_q.out
  have uf0 := uf 0
  clear uf
  go_simp
  refine hK.out _ _ (fun h => absurd rfl h) ?_
  clear hK K'
  (try simp only [Act.put, List.getElem_toArray, List.getElem_cons_succ, List.getElem_cons_zero, List.setIfInBounds_toArray, List.set_cons_zero, List.set_cons_succ])
  refine wpK_done (by kernel_rfl) ?_ _
  have hwq : w.heap.size + 2 < vq.heap.size := Z_q.out.lt
  have hm : Mid (w.heap.size + 1) (w.heap.size + 1 + 1) vq (vq.setCell ⟨w.heap.size + 1, 0, none⟩ (.slice rca cm.length rcc)) := mid_cell _ _ _ _
  have V_r := Lib.hid (V_q.out.set0 (.slice rca cm.length rcc))
  have G_r := Lib.hid (G_q.out.mid hm (.inl (by omega)))
  have Z_r := Lib.hid (Z_q.out.mid hm (.inr (by omega)))
  have H_r := Lib.hid (H_q.out.mid hm (.inl (by omega)))
  have R_r := Lib.hid (R_q.out.mid hm (.inl (by omega)))
  have X_r := Lib.hid (X_q.out.mid hm (by omega))
  have C_r := Lib.hid (C_q.out.mid hm (.inr (by have := Z_p.out.lt; omega)))
  have HB_r := Lib.hid (HB_q.out.trans (hm.toBelow (by omega) (by omega)))
  have M1_r := Lib.hid (M1_q.out.mid hm (by omega))
  have M2_r := Lib.hid (M2_q.out.mid hm (by omega))
  have hcs := C_r.out.2.2.1
  generalize hX2 : vq.setCell ⟨w.heap.size + 1, 0, none⟩ (.slice rca cm.length rcc) = vr at *
  have PP_r := Lib.hid (show InP vr.heap.size vr (pv3 rca cm.length rcc (some ⟨gh, 0, none⟩) dh.length ch (some ⟨gr, 0, none⟩) dr.length cr) ⟨cm, dh, dr⟩ from ⟨_, _, _, rfl, C_r.out.toIn.wide hcs (Nat.le_refl _), H_r.out.toIn.wide H_r.out.2.2.1 (Nat.le_refl _), R_r.out.toIn.wide R_r.out.2.2.1 (Nat.le_refl _)⟩)
  clear hm g0 g1 g2 p0 p1 p2 pf
  obtain ⟨g0, g1, g2⟩ := G_r.out
  obtain ⟨p0, p1, p2, pf⟩ := V_r.out
  go_wp2_with fail
  refine (msLin_any P Q G HG.out s hsm f1 (by omega) f3 f4 (p := ⟨cm, dh, dr⟩) (by unfold PrD.n; simp only []; omega) HDI0.out M1_r.out M2_r.out PP_r.out).mono ?_
  rw [HMS.out, HCH.out]
  rintro e vs ⟨rfl, hb⟩
  have HB_s := Lib.hid (HB_r.out.trans (hb.mono HB_r.out.size))
  have G_s := Lib.hid (G_r.out.below hb)
  have V_s := Lib.hid (V_r.out.below hb)
  have Z_s := Lib.hid (Z_r.out.below hb)
  have H_s := Lib.hid (H_r.out.below hb)
  have R_s := Lib.hid (R_r.out.below hb)
  have X_s := Lib.hid (X_r.out.below hb)
  have C_s := Lib.hid (C_r.out.below hb)
  have M1_s := Lib.hid (M1_r.out.below hb)
  have M2_s := Lib.hid (M2_r.out.below hb)
  have hws := Z_s.out.lt
  have hcss := C_s.out.2.2.1
  clear hb g0 g1 g2 p0 p1 p2 pf
  obtain ⟨g0, g1, g2⟩ := G_s.out
  obtain ⟨p0, p1, p2, pf⟩ := V_s.out
  obtain ⟨y0, y1, y2, yf⟩ := Z_s.out
  have yf0 := yf 0
  have yf1 := yf 1
  have yf2 := yf 2
  clear yf
  go_wp2
  (try simp only [Exit.inBlock, Exit.then])
  refine bodyPost_ret (v := .tuple #[.agg #[.slice none 0 0, .slice none 0 0, .slice none 0 0], .bool false]) ?_ rfl ?_
  · rw [results_cell_tmp rfl]; go_simp
  · have hm5 := mid3 vs (w.heap.size + 2) (.slice none 0 0) (.slice none 0 0) (.slice none 0 0)
    have hb5 : Below base w vs := HB_s.out.mono (by omega)
    exact ⟨_, _, _, rfl, owQ_nil base _ (Nat.le_trans (show base ≤ vs.heap.size from by have := HB_s.out.size; omega) hm5.size), hb5.trans (hm5.toBelow (by omega) (by have := HB_s.out.size; omega))⟩

set_option maxRecDepth 100000 in
set_option maxHeartbeats 6400000 in
theorem completeCho_off (P Q G : Int) (hg : goodB P Q G = true) (s : ByteArray) (hs : 40 < s.size) (hsm : s.size ≤ 1048576) {B1 : Nat} {u1 : Value} {es : List Int} {n4 : Nat} (hn4 : es.length = n4 * 4) {QX PX base M gh ch gr cr x2 : Nat} {x1 : Option Addr} {dh dr xs : List Int} {which : Nat} (hok : (St.cho es).ok P Q = true) {w : World} (hu1 : InE B1 w u1 es) (hB12 : B1 ≤ base) (hH : OwI base M w (.slice (some ⟨gh, 0, none⟩) dh.length ch) dh) (hR : OwI M w.heap.size w (.slice (some ⟨gr, 0, none⟩) dr.length cr) dr) (hX : KP QX PX (fun w' => IsInts w' x1 xs) w) (hXs : (PX ≤ gh ∨ gh + 1 ≤ QX) ∧ (PX ≤ gr ∨ gr + 1 ≤ QX)) (hXb : xs ≠ [] → ∀ a, x1 = some a → some a.block ≠ some gr)
    (hdh : dh.length = (St.cho es).parts.length) (hdr : dr.length = nCols (St.cho es).parts) (hdi : allIn dh 0 (Q - 1) = true) (hri : allIn dr 0 (Q - 1) = true) (hxi : allIn xs 0 (Q - 1) = true) (hx1 : xs.length = 1) (hwl : which < dh.length) (hwr : which < dr.length) :
    Calls Try.prog 75 #[gv P Q G, .string s, .iface 96 u1, pv3 none 0 0 (some ⟨gh, 0, none⟩) dh.length ch (some ⟨gr, 0, none⟩) dr.length cr, .int .i64 (which : Int), .slice x1 xs.length x2] w (AnsQ base w nilP false) := by
  obtain ⟨y1, yn, y2, rfl, hyn, _, _⟩ := hu1.shape
  obtain ⟨f1, f5, f6, f7, f8⟩ := cho_facts hn4 hok
  have f9 := cho_pos hok
  have hm2 : ∀ (k : Nat) (W : World), (method (k + 1) 96 (.slice y1 yn y2) "loop.example/g00878/impl.parts").run Try.prog W = .ok (170, (.slice y1 yn y2)) W := fun _ _ => by kernel_rfl
  have hfr := f7.1.rows (St.cho es).parts.length (Nat.le_refl _)
  rw [List.take_length] at hfr
  have h8 := f7.1.1
  obtain ⟨hhl, hrl⟩ : dh.length ≤ 8 ∧ dr.length ≤ 64 := by omega
  have hdi0 := all_ex hdi
  obtain ⟨cm, hcm⟩ : ∃ cm, cmts P Q (St.cho es).parts dh dr = cm := ⟨_, rfl⟩
  have hcme : allEl P Q cm = true := hcm ▸ cmts_el hg _ _ _ (fun p hp => ⟨fun r hr => ((f7.2 p hp).1 r hr).2, (f7.2 p hp).2.2⟩) (fun e he => (hdi0 e he).1) hri
  have hcml : cm.length ≤ 64 := by have h9 := cmts_len (P := P) (Q := Q) (St.cho es).parts dh dr (fun q hq => (f7.1.2 q hq).2.1); rw [hcm] at h9; omega
  have hch : chB P Q G s ((St.cho es).els ++ cm) 3 = false := by rw [← Bool.not_eq_true]; intro h; have h2 := labB_true.1 (chB_true.1 h).2.1; omega
  have hq := (good_rng hg).2.1
  have hms : msV P Q G s (St.cho es).els cm dh = 0 := by simp [msV, hch]
  have HX1 := Lib.hid hx1
  rw [hx1]
  clear hx1
  have HCM := Lib.hid hcm
  have HCH := Lib.hid hch
  have HMS := Lib.hid hms
  have HG := Lib.hid hg
  have F7 := Lib.hid f7
  have HDI := Lib.hid hdi
  have HDI0 := Lib.hid hdi0
  have HRI := Lib.hid hri
  have HRI0 := Lib.hid (all_ex hri)
  have HXI := Lib.hid (all_ex hxi)
  have HDH := Lib.hid hdh
  have HDR := Lib.hid hdr
  have hgh := hH.gblk
  have hgr := hR.gblk
  have hMw := hR.2.2.2
  have hPX := hX.1
  have HXB := Lib.hid hXb
  clear hXb
  clear hcm hch hms hg f6 f7 hdi hdi0 hri hxi hcme hfr hok hdh hdr
  have G_0 := Lib.hid (((gr_new w P Q G 32).below (ba _ (.cells #[.slice none 0 0, .slice (some ⟨gh, 0, none⟩) dh.length ch, .slice (some ⟨gr, 0, none⟩) dr.length cr] 36))).below (ba _ (.cells #[.slice none 0 0, .slice none 0 0, .slice none 0 0] 36)))
  have hv := (b3_new (w.alloc (.cells #[.int .i64 P, .int .i64 Q, .int .i64 G] 32)) (.slice none 0 0) (.slice (some ⟨gh, 0, none⟩) dh.length ch) (.slice (some ⟨gr, 0, none⟩) dr.length cr) 36).below (ba _ (.cells #[.slice none 0 0, .slice none 0 0, .slice none 0 0] 36))
  rw [show (w.alloc (.cells #[.int .i64 P, .int .i64 Q, .int .i64 G] 32)).heap.size = w.heap.size + 1 by simp] at hv
  have V_0 := Lib.hid hv
  have hz := b3_new ((w.alloc (.cells #[.int .i64 P, .int .i64 Q, .int .i64 G] 32)).alloc (.cells #[.slice none 0 0, .slice (some ⟨gh, 0, none⟩) dh.length ch, .slice (some ⟨gr, 0, none⟩) dr.length cr] 36)) (.slice none 0 0) (.slice none 0 0) (.slice none 0 0) 36
  rw [show ((w.alloc (.cells #[.int .i64 P, .int .i64 Q, .int .i64 G] 32)).alloc (.cells #[.slice none 0 0, .slice (some ⟨gh, 0, none⟩) dh.length ch, .slice (some ⟨gr, 0, none⟩) dr.length cr] 36)).heap.size = w.heap.size + 2 by simp] at hz
  have Z_0 := Lib.hid hz
  have HB_0 := Lib.hid (bt (bt (ba w (.cells #[.int .i64 P, .int .i64 Q, .int .i64 G] 32)) (ba _ (.cells #[.slice none 0 0, .slice (some ⟨gh, 0, none⟩) dh.length ch, .slice (some ⟨gr, 0, none⟩) dr.length cr] 36))) (ba _ (.cells #[.slice none 0 0, .slice none 0 0, .slice none 0 0] 36)))
  have H_0 := Lib.hid (hH.below HB_0.out)
  have R_0 := Lib.hid (hR.below HB_0.out)
  have X_0 := Lib.hid (hX.below HB_0.out)
  have M1_0 := Lib.hid (hu1.below HB_0.out)
  clear hv hz hH hR hX hu1
  obtain ⟨W, hW⟩ : ∃ W, ((w.alloc (.cells #[.int .i64 P, .int .i64 Q, .int .i64 G] 32)).alloc (.cells #[.slice none 0 0, .slice (some ⟨gh, 0, none⟩) dh.length ch, .slice (some ⟨gr, 0, none⟩) dr.length cr] 36)).alloc (.cells #[.slice none 0 0, .slice none 0 0, .slice none 0 0] 36) = W := ⟨_, rfl⟩
  rw [hW] at HB_0 G_0 V_0 Z_0 H_0 R_0 X_0 M1_0
  have PP_0 := Lib.hid (show InP W.heap.size W (pv3 none 0 0 (some ⟨gh, 0, none⟩) dh.length ch (some ⟨gr, 0, none⟩) dr.length cr) ⟨[], dh, dr⟩ from ⟨_, _, _, rfl, InI.of (.inl rfl) (fun _ => rfl) (Nat.le_refl _), H_0.out.toIn.wide (by have := HB_0.out.size; omega) (Nat.le_refl _), R_0.out.toIn.wide HB_0.out.size (Nat.le_refl _)⟩)
  obtain ⟨g0, g1, g2⟩ := G_0.out
  obtain ⟨p0, p1, p2, pf⟩ := V_0.out
  go_enter Try.func75, Try.ntmps75
  go_wp2_with fail
  clear hW
  refine wpK_begin (n := 6) (S := (fun w' => (w'.cell? ⟨w.heap.size, 0, none⟩ = some (.int .i64 P) ∧ w'.cell? ⟨w.heap.size, 1, none⟩ = some (.int .i64 Q) ∧ w'.cell? ⟨w.heap.size, 2, none⟩ = some (.int .i64 G)) ∧ w'.cell? ⟨w.heap.size + 1, 0, none⟩ = some (.slice none 0 0) ∧ w'.cell? ⟨w.heap.size + 1, 1, none⟩ = some (.slice (some ⟨gh, 0, none⟩) dh.length ch) ∧ w'.cell? ⟨w.heap.size + 1, 2, none⟩ = some (.slice (some ⟨gr, 0, none⟩) dr.length cr))) (by kernel_rfl) ?_
  refine wpK_take (i := 0) (v := ?_) rfl (by kernel_rfl) (by kernel_rfl) (by kernel_rfl) (by kernel_rfl) (fun _ _ _ h => h) (Or.inl ⟨by kernel_rfl, ?_⟩) (show _ from ⟨⟨G_0.out.1, G_0.out.2.1, G_0.out.2.2⟩, V_0.out.1, V_0.out.2.1, V_0.out.2.2.1⟩) ?_
  rotate_left 1
  · intro w9 hSw
    (try dsimp only at hSw)
    go_simp
    (try with_reducible rfl)
  (try simp only [Act.put, List.getElem_toArray, List.getElem_cons_succ, List.getElem_cons_zero, List.setIfInBounds_toArray, List.set_cons_zero, List.set_cons_succ])
  refine wpK_take (i := 1) (v := ?_) rfl (by kernel_rfl) (by kernel_rfl) (by kernel_rfl) (by kernel_rfl) (fun _ _ _ h => h) (Or.inl ⟨by kernel_rfl, ?_⟩) (show _ from ⟨⟨G_0.out.1, G_0.out.2.1, G_0.out.2.2⟩, V_0.out.1, V_0.out.2.1, V_0.out.2.2.1⟩) ?_
  rotate_left 1
  · intro w9 hSw
    (try dsimp only at hSw)
    go_simp
    (try with_reducible rfl)
  (try simp only [Act.put, List.getElem_toArray, List.getElem_cons_succ, List.getElem_cons_zero, List.setIfInBounds_toArray, List.set_cons_zero, List.set_cons_succ])
  refine wpK_take (i := 3) (v := ?_) rfl (by kernel_rfl) (by kernel_rfl) (by kernel_rfl) (by kernel_rfl) (fun _ _ _ h => h) (Or.inl ⟨by kernel_rfl, ?_⟩) (show _ from ⟨⟨G_0.out.1, G_0.out.2.1, G_0.out.2.2⟩, V_0.out.1, V_0.out.2.1, V_0.out.2.2.1⟩) ?_
  rotate_left 1
  · intro w9 hSw
    (try dsimp only at hSw)
    go_simp
    (try with_reducible rfl)
  (try simp only [Act.put, List.getElem_toArray, List.getElem_cons_succ, List.getElem_cons_zero, List.setIfInBounds_toArray, List.set_cons_zero, List.set_cons_succ])
  refine wpK_one (i := 2) (by kernel_rfl) rfl ?_
  intro K' hK
  go_simp
  go_at_call 170
  refine (choParts_any f1 M1_0.out.dr).mono ?_
  rintro e vp ⟨rp, rfl, hL, hb0⟩
  obtain ⟨lg, lc, rfl, _⟩ := id hL
  have hb : Below W.heap.size W vp := bt ((Below.refl _ W).drew) hb0
  clear hb0
  have HB_p := Lib.hid (bt HB_0.out hb)
  have G_p := Lib.hid (G_0.out.below hb)
  have V_p := Lib.hid (V_0.out.below hb)
  have Z_p := Lib.hid (Z_0.out.below hb)
  have H_p := Lib.hid (H_0.out.below hb)
  have R_p := Lib.hid (R_0.out.below hb)
  have X_p := Lib.hid (X_0.out.below hb)
  have PP_p := Lib.hid (PP_0.out.below hb)
  have M1_p := Lib.hid (M1_0.out.below hb)
  clear hb
  have L_p := Lib.hid hL
  clear hL
  go_wp2_with fail
  refine hK.out _ _ (fun _ => ⟨⟨G_p.out.1, G_p.out.2.1, G_p.out.2.2⟩, V_p.out.1, V_p.out.2.1, V_p.out.2.2.1⟩) ?_
  clear hK K'
  (try simp only [Act.put, List.getElem_toArray, List.getElem_cons_succ, List.getElem_cons_zero, List.setIfInBounds_toArray, List.set_cons_zero, List.set_cons_succ])
  refine wpK_one (i := 4) (by kernel_rfl) rfl ?_
  intro K' hK
  go_simp
  go_at_call 106
  refine (commitsOf_any P Q G HG.out F7.out f8 HDH.out HDR.out HDI.out HRI.out L_p.out PP_p.out).mono ?_
  rw [HCM.out]
  rintro e vq ⟨rc, rfl, ho, hb⟩
  obtain ⟨rca, rcc, rfl⟩ := ho.toIn.shape
  have HB_q := Lib.hid (bt HB_p.out hb)
  have G_q := Lib.hid (G_p.out.below hb)
  have V_q := Lib.hid (V_p.out.below hb)
  have Z_q := Lib.hid (Z_p.out.below hb)
  have H_q := Lib.hid (H_p.out.below hb)
  have R_q := Lib.hid (R_p.out.below hb)
  have X_q := Lib.hid (X_p.out.below hb)
  have PP_q := Lib.hid (PP_p.out.below hb)
  have M1_q := Lib.hid (M1_p.out.below hb)
  clear hb
  have C_q := Lib.hid ho
  clear ho
  go_wp2_with fail
  refine hK.out _ _ (fun _ => ⟨⟨G_q.out.1, G_q.out.2.1, G_q.out.2.2⟩, V_q.out.1, V_q.out.2.1, V_q.out.2.2.1⟩) ?_
  clear hK K'
  (try simp only [Act.put, List.getElem_toArray, List.getElem_cons_succ, List.getElem_cons_zero, List.setIfInBounds_toArray, List.set_cons_zero, List.set_cons_succ])
  refine wpK_take (i := 5) (v := ?_) rfl (by kernel_rfl) (by kernel_rfl) (by kernel_rfl) (by kernel_rfl) (fun _ _ _ h => h) (Or.inl ⟨by kernel_rfl, ?_⟩) ⟨⟨G_q.out.1, G_q.out.2.1, G_q.out.2.2⟩, V_q.out.1, V_q.out.2.1, V_q.out.2.2.1⟩ ?_
  rotate_left 1
  · intro w9 hSw
    (try dsimp only at hSw)
    go_simp
    (try with_reducible rfl)
  (try simp only [Act.put, List.getElem_toArray, List.getElem_cons_succ, List.getElem_cons_zero, List.setIfInBounds_toArray, List.set_cons_zero, List.set_cons_succ])
  refine wpK_one (i := 6) (by kernel_rfl) rfl ?_
  intro K' hK
  obtain ⟨u0, u1, u2, uf⟩ := V_q.out
  have uf0 := uf 0
  clear uf
  go_simp
  refine hK.out _ _ (fun h => absurd rfl h) ?_
  clear hK K'
  (try simp only [Act.put, List.getElem_toArray, List.getElem_cons_succ, List.getElem_cons_zero, List.setIfInBounds_toArray, List.set_cons_zero, List.set_cons_succ])
  refine wpK_done (by kernel_rfl) ?_ _
  have hwq : w.heap.size + 2 < vq.heap.size := Z_q.out.lt
  have hm : Mid (w.heap.size + 1) (w.heap.size + 1 + 1) vq (vq.setCell ⟨w.heap.size + 1, 0, none⟩ (.slice rca cm.length rcc)) := mid_cell _ _ _ _
  have V_r := Lib.hid (V_q.out.set0 (.slice rca cm.length rcc))
  have G_r := Lib.hid (G_q.out.mid hm (.inl (by omega)))
  have Z_r := Lib.hid (Z_q.out.mid hm (.inr (by omega)))
  have H_r := Lib.hid (H_q.out.mid hm (.inl (by omega)))
  have R_r := Lib.hid (R_q.out.mid hm (.inl (by omega)))
  have X_r := Lib.hid (X_q.out.mid hm (by omega))
  have C_r := Lib.hid (C_q.out.mid hm (.inr (by have := Z_p.out.lt; omega)))
  have HB_r := Lib.hid (HB_q.out.trans (hm.toBelow (by omega) (by omega)))
  have M1_r := Lib.hid (M1_q.out.mid hm (by omega))
  have hcs := C_r.out.2.2.1
  generalize hX2 : vq.setCell ⟨w.heap.size + 1, 0, none⟩ (.slice rca cm.length rcc) = vr at *
  have PP_r := Lib.hid (show InP vr.heap.size vr (pv3 rca cm.length rcc (some ⟨gh, 0, none⟩) dh.length ch (some ⟨gr, 0, none⟩) dr.length cr) ⟨cm, dh, dr⟩ from ⟨_, _, _, rfl, C_r.out.toIn.wide hcs (Nat.le_refl _), H_r.out.toIn.wide H_r.out.2.2.1 (Nat.le_refl _), R_r.out.toIn.wide R_r.out.2.2.1 (Nat.le_refl _)⟩)
  clear hm g0 g1 g2 p0 p1 p2 pf
  obtain ⟨g0, g1, g2⟩ := G_r.out
  obtain ⟨p0, p1, p2, pf⟩ := V_r.out
  go_wp2_with fail
  refine (msCho_any P Q G HG.out s hsm f1 f9 (p := ⟨cm, dh, dr⟩) (by unfold PrD.n; simp only []; omega) HDI0.out M1_r.out PP_r.out).mono ?_
  rw [HMS.out, HCH.out]
  rintro e vs ⟨rfl, hb⟩
  have HB_s := Lib.hid (HB_r.out.trans (hb.mono HB_r.out.size))
  have G_s := Lib.hid (G_r.out.below hb)
  have V_s := Lib.hid (V_r.out.below hb)
  have Z_s := Lib.hid (Z_r.out.below hb)
  have H_s := Lib.hid (H_r.out.below hb)
  have R_s := Lib.hid (R_r.out.below hb)
  have X_s := Lib.hid (X_r.out.below hb)
  have C_s := Lib.hid (C_r.out.below hb)
  have M1_s := Lib.hid (M1_r.out.below hb)
  have hws := Z_s.out.lt
  have hcss := C_s.out.2.2.1
  clear hb g0 g1 g2 p0 p1 p2 pf
  obtain ⟨g0, g1, g2⟩ := G_s.out
  obtain ⟨p0, p1, p2, pf⟩ := V_s.out
  obtain ⟨y0, y1, y2, yf⟩ := Z_s.out
  have yf0 := yf 0
  have yf1 := yf 1
  have yf2 := yf 2
  clear yf
  go_wp2
  (try simp only [Exit.inBlock, Exit.then])
  refine bodyPost_ret (v := .tuple #[.agg #[.slice none 0 0, .slice none 0 0, .slice none 0 0], .bool false]) ?_ rfl ?_
  · rw [results_cell_tmp rfl]; go_simp
  · have hm5 := mid3 vs (w.heap.size + 2) (.slice none 0 0) (.slice none 0 0) (.slice none 0 0)
    have hb5 : Below base w vs := HB_s.out.mono (by omega)
    exact ⟨_, _, _, rfl, owQ_nil base _ (Nat.le_trans (show base ≤ vs.heap.size from by have := HB_s.out.size; omega) hm5.size), hb5.trans (hm5.toBelow (by omega) (by have := HB_s.out.size; omega))⟩

/-! ### Small facts -/
theorem OwI.some {Q P : Nat} {w : World} {v : Value} {zs : List Int} (h : OwI Q P w v zs) (h0 : 0 < zs.length) : ∃ g c, v = .slice (some ⟨g, 0, none⟩) zs.length c := by
  rcases h.1.2 with ⟨_, hn⟩ | ⟨g, cap, cur, rfl, _⟩
  · omega
  · exact ⟨g, cap, rfl⟩
theorem OwQ.mid2 {Q P A B : Nat} {w w' : World} {v : Value} {p : PrD} (h : OwQ Q P w v p) (hm : Mid A B w w') (ho : P ≤ A ∨ B ≤ Q) : OwQ Q P w' v p := h.mid hm ho
theorem OwQ.shape {Q P : Nat} {w : World} {a b c : Value} {p : PrD} (h : OwQ Q P w (.agg #[a, b, c]) p) : ∃ a1 c1 a2 c2 a3 c3, a = .slice a1 p.c.length c1 ∧ b = .slice a2 p.h.length c2 ∧ c = .slice a3 p.r.length c3 := by
  obtain ⟨a1, c1, a2, c2, a3, c3, e, _⟩ := h.toIn.parts
  simp only [Value.agg.injEq, Array.mk.injEq, List.cons.injEq, and_true] at e
  exact ⟨a1, c1, a2, c2, a3, c3, e.1, e.2.1, e.2.2⟩

theorem take_snoc {zs : List Int} {z : Int} {k : Nat} (h : zs.drop k = z :: zs.drop (k + 1)) (hk : k < zs.length) : zs.take (k + 1) = zs.take k ++ [z] := by
  rw [List.drop_eq_getElem_cons hk] at h
  rw [List.take_succ_eq_append_getElem hk, (List.cons.inj h).1]
theorem OwI.belowQ {Q P : Nat} {w w' : World} {v : Value} {zs : List Int} (h : OwI Q P w v zs) (hb : Below w.heap.size w w') : OwI Q w'.heap.size w' v zs := (h.below hb).wide (Nat.le_refl _) (Nat.le_trans h.2.2.1 hb.size) (Nat.le_refl _)
theorem InI.cell {B : Nat} {w : World} {ad : Option Addr} {n c : Nat} {zs : List Int} (h : InI B w (.slice ad n c) zs) {k : Nat} (hk : k < zs.length) : ∃ b off z, ad = some ⟨b, off, none⟩ ∧ (b < w.heap.size ∧ b < B) ∧ w.cell? ⟨b, off + k, none⟩ = some (.int .i64 z) ∧ zs.drop k = z :: zs.drop (k + 1) := by
  obtain ⟨b, off, z, h1, h2, h3, h4⟩ := (h.ints).1.at (k := k) hk
  refine ⟨b, off, z, h1, ⟨h2, ?_⟩, h3, h4⟩
  rcases Nat.lt_or_ge b B with hb | hb
  · exact hb
  · exact absurd rfl (h.blk hb (by intro e; subst e; simp at hk) _ h1)
theorem Mid.over {Q P R : Nat} {a b c : World} (h : Mid Q P a b) (k : Mid a.heap.size R b c) : Mid Q P a c :=
  ⟨k.os.trans h.os, k.tape.trans h.tape, k.output.trans h.output, Nat.le_trans h.size k.size, fun i hi hr => (k.block i (Nat.lt_of_lt_of_le hi h.size) (.inl hi)).trans (h.block i hi hr)⟩

theorem inP_shapeQ {P : Nat} {w : World} {v : Value} {p : PrD} (h : InP P w v p) : ∃ a1 a2 b1 b2 c1 c2, v = .agg #[.slice a1 p.c.length a2, .slice b1 p.h.length b2, .slice c1 p.r.length c2] := by
  obtain ⟨a1, c1, a2, c2, a3, c3, e, _⟩ := h.parts
  exact ⟨_, _, _, _, _, _, e⟩
theorem sxpy_snoc {Q e c x : Int} : ∀ a b : List Int, a.length = b.length → sxpy Q (a ++ [c]) e (b ++ [x]) = sxpy Q a e b ++ [(c + e * x) % Q]
  | [], [], _ => rfl
  | [], _ :: _, h => by simp at h
  | _ :: _, [], h => by simp at h
  | y :: a, z :: b, h => by
    show (y + e * z) % Q :: sxpy Q (a ++ [c]) e (b ++ [x]) = _
    rw [sxpy_snoc a b (by simpa using h)]; rfl
end Go.Proofs.Ytdaekpfngphefaa

