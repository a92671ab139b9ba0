/- Sigma proofs, the program: the challenge that is missing. -/
import Derived.Test.YtlgdcfficemebaaSigC
namespace Go.Proofs.Ytlgdcfficemebaa
open Go.RowKit
set_option linter.unusedVariables false
set_option linter.unusedSimpArgs false

set_option maxRecDepth 100000 in
set_option maxHeartbeats 3200000 in
theorem msLin_any (P Q G : Int) (hg : goodB P Q G = true) (s : ByteArray) (hs : s.size ≤ 1048576) {B1 B2 : Nat} {u1 u2 : Value} {rows : List (List Int)} {im : List Int} (hl : rows.length ≤ 8) (hr : nS rows ≤ 1000) (h0 : 0 < nS rows) (hi8 : im.length ≤ 8) {B : Nat} {v : Value} {p : PrD} (hpn : p.n ≤ 1048576) (hhi : ∀ e ∈ p.h, 0 ≤ e ∧ e < Q) {w : World} (hu1 : InS B1 w u1 rows) (hu2 : InI B2 w u2 im) (hP : InP B w v p) :
    Calls Try.prog 127 #[gv P Q G, .string s, .iface 92 (.agg #[u1, u2]), v] w (EqOut (.tuple #[.int .i64 (msV P Q G s (St.lin rows im).els p.c p.h), .bool (chB P Q G s ((St.lin rows im).els ++ p.c) 3)]) w) := by
  obtain ⟨y1, y2, rfl⟩ := hu1.shape
  obtain ⟨z1, z2, rfl⟩ := hu2.shape
  obtain ⟨a1, c1, a2, c2, a3, c3, rfl, h1, h2, h3⟩ := hP.parts
  obtain ⟨hl1, hl2, hl3⟩ : p.c.length ≤ 1048576 ∧ p.h.length ≤ 1048576 ∧ p.r.length ≤ 1048576 := by unfold PrD.n at hpn; omega
  have hcl9 : p.c.length ≤ 900000 ∨ 900000 < p.c.length := by omega
  have hQ2 : 2 ≤ Q ∧ Q ≤ 2000000000 := (good_rng hg).2.1
  have hm1 : ∀ (k : Nat) (W : World), (method (k + 1) 92 (.agg #[.slice y1 rows.length y2, .slice z1 im.length z2]) "loop.example/g00878/impl.elements").run Try.prog W = .ok (187, (.agg #[.slice y1 rows.length y2, .slice z1 im.length z2])) W := fun _ _ => by kernel_rfl
  have hal := ba (w.alloc (.cells #[.int .i64 P, .int .i64 Q, .int .i64 G] 32)) (.cells #[.slice a1 p.c.length c1, .slice a2 p.h.length c2, .slice a3 p.r.length c3] 36)
  have HB_0 := Lib.hid (bt (ba w (.cells #[.int .i64 P, .int .i64 Q, .int .i64 G] 32)) hal)
  have G_0 := Lib.hid (GR.below (gr_new w P Q G 32) hal)
  have hv := b3_new (w.alloc (.cells #[.int .i64 P, .int .i64 Q, .int .i64 G] 32)) (.slice a1 p.c.length c1) (.slice a2 p.h.length c2) (.slice a3 p.r.length c3) 36
  have hs1 : (w.alloc (.cells #[.int .i64 P, .int .i64 Q, .int .i64 G] 32)).heap.size = w.heap.size + 1 := by simp
  rw [hs1] at hv
  have V_0 := Lib.hid hv
  have C_0 := Lib.hid (h1.below HB_0.out)
  have H_0 := Lib.hid (h2.below HB_0.out)
  have M1_0 := Lib.hid (hu1.below HB_0.out)
  have M2_0 := Lib.hid (hu2.below HB_0.out)
  have helc := fun (W : World) (h1 : InS B1 W (.slice y1 rows.length y2) rows) (h2 : InI B2 W (.slice z1 im.length z2) im) => linElements_any hl hr h0 hi8 h1 h2
  have hel : (St.lin rows im).els = rows.flatten ++ im := rfl
  rw [hel]
  obtain ⟨es, hes⟩ : ∃ es, rows.flatten ++ im = es := ⟨_, rfl⟩
  have hesl : es.length ≤ 2000 ∧ 0 < es.length := by rw [← hes]; rw [List.length_append, nS_flat]; omega
  rw [hes] at helc ⊢
  clear hes
  have HEL := Lib.hid helc
  have HHI := Lib.hid hhi
  have hesl0 := hesl.1
  have HE0 := Lib.hid hesl.2
  obtain ⟨g0, g1, g2⟩ := G_0.out
  obtain ⟨pv0, pv1, pv2, _⟩ := V_0.out
  have hsW : ((w.alloc (.cells #[.int .i64 P, .int .i64 Q, .int .i64 G] 32)).alloc (.cells #[.slice a1 p.c.length c1, .slice a2 p.h.length c2, .slice a3 p.r.length c3] 36)).heap.size = w.heap.size + 1 + 1 := by simp
  clear hal hv h1 h2 h3 hP helc hhi hel hs1 hesl hu1 hu2
  go_enter Try.func127, Try.ntmps127
  go_wp2_with fail
  generalize hW : ((w.alloc (.cells #[.int .i64 P, .int .i64 Q, .int .i64 G] 32)).alloc (.cells #[.slice a1 p.c.length c1, .slice a2 p.h.length c2, .slice a3 p.r.length c3] 36)) = W at *
  have HB_1 := Lib.hid (Below.refl W.heap.size W)
  have G_1 := Lib.hid G_0.out
  have V_1 := Lib.hid V_0.out
  have C_1 := Lib.hid C_0.out
  have H_1 := Lib.hid H_0.out
  have M1_1 := Lib.hid M1_0.out
  have M2_1 := Lib.hid M2_0.out
  clear g0 g1 g2 pv0 pv1 pv2
  have hbd : Below W.heap.size W W.drew := (Below.refl _ W).drew
  have HB_s := Lib.hid (bt HB_1.out hbd)
  have G_s := Lib.hid (G_1.out.below hbd)
  have V_s := Lib.hid (V_1.out.below hbd)
  have C_s := Lib.hid (C_1.out.below hbd)
  have H_s := Lib.hid (H_1.out.below hbd)
  have M1_s := Lib.hid (M1_1.out.below hbd)
  have M2_s := Lib.hid (M2_1.out.below hbd)
  clear hbd
  refine wp_region_held_drew (S := (fun w' => (w'.cell? ⟨w.heap.size, 0, none⟩ = some (.int .i64 P) ∧ w'.cell? ⟨w.heap.size, 1, none⟩ = some (.int .i64 Q) ∧ w'.cell? ⟨w.heap.size, 2, none⟩ = some (.int .i64 G)) ∧ w'.cell? ⟨w.heap.size + 1, 0, none⟩ = some (.slice a1 p.c.length c1))) (by kernel_rfl) (show _ from ⟨⟨G_1.out.1, G_1.out.2.1, G_1.out.2.2⟩, V_1.out.1⟩) (fun hHeld => ?_)
  generalize hW0 : W.drew = Ws at *
  clear hW0
  refine wpAnyH_take (i := 0) (v := ?_) rfl (by kernel_rfl) (by kernel_rfl) (by kernel_rfl) (fun _ _ _ h => h) (Or.inl ⟨by kernel_rfl, ?_⟩) (by assumption) ?_
  rotate_left 1
  · intro w9 hSw
    try dsimp only at hSw
    go_simp
    try with_reducible rfl
  try simp only [Act.put, List.getElem_toArray, List.getElem_cons_succ, List.getElem_cons_zero, List.setIfInBounds_toArray, List.set_cons_zero, List.set_cons_succ]
  refine wpAnyH_take (i := 1) (v := ?_) rfl (by kernel_rfl) (by kernel_rfl) (by kernel_rfl) (fun _ _ _ h => h) (Or.inl ⟨by kernel_rfl, ?_⟩) (by assumption) ?_
  rotate_left 1
  · intro w9 hSw
    try dsimp only at hSw
    go_simp
    try with_reducible rfl
  try simp only [Act.put, List.getElem_toArray, List.getElem_cons_succ, List.getElem_cons_zero, List.setIfInBounds_toArray, List.set_cons_zero, List.set_cons_succ]
  refine wpAnyH_take (i := 2) (v := ?_) rfl (by kernel_rfl) (by kernel_rfl) (by kernel_rfl) (fun _ _ _ h => h) (Or.inl ⟨by kernel_rfl, ?_⟩) (by assumption) ?_
  rotate_left 1
  · intro w9 hSw
    try dsimp only at hSw
    go_simp
    try with_reducible rfl
  try simp only [Act.put, List.getElem_toArray, List.getElem_cons_succ, List.getElem_cons_zero, List.setIfInBounds_toArray, List.set_cons_zero, List.set_cons_succ]
  refine wpAnyH_take (i := 4) (v := ?_) rfl (by kernel_rfl) (by kernel_rfl) (by kernel_rfl) (fun _ _ _ h => h) (Or.inl ⟨by kernel_rfl, ?_⟩) (by assumption) ?_
  rotate_left 1
  · intro w9 hSw
    try dsimp only at hSw
    go_simp
    try with_reducible rfl
  try simp only [Act.put, List.getElem_toArray, List.getElem_cons_succ, List.getElem_cons_zero, List.setIfInBounds_toArray, List.set_cons_zero, List.set_cons_succ]
  refine wpAnyH_take (i := 5) (v := ?_) rfl (by kernel_rfl) (by kernel_rfl) (by kernel_rfl) (fun _ _ _ h => h) (Or.inl ⟨by kernel_rfl, ?_⟩) (by assumption) ?_
  rotate_left 1
  · intro w9 hSw
    try dsimp only at hSw
    go_simp
    try with_reducible rfl
  try simp only [Act.put, List.getElem_toArray, List.getElem_cons_succ, List.getElem_cons_zero, List.setIfInBounds_toArray, List.set_cons_zero, List.set_cons_succ]
  refine wpAnyH_ready (rs := [3]) (by kernel_rfl) (by simp) ?_
  refine AllReadyH.cons rfl (fun K hK => ?_) (AllReadyH.nil)
  go_simp
  go_at_call 187
  refine (HEL.out _ M1_s.out M2_s.out).mono ?_
  rintro e' Wsd ⟨rc, rfl, ho, hb⟩
  obtain ⟨ra, rcc, rfl⟩ := (ho.toIn).shape
  have HB_sd := Lib.hid (bt HB_s.out hb)
  have G_sd := Lib.hid (G_s.out.below hb)
  have V_sd := Lib.hid (V_s.out.below hb)
  have C_sd := Lib.hid (C_s.out.below hb)
  have H_sd := Lib.hid (H_s.out.below hb)
  have M1_sd := Lib.hid (M1_s.out.below hb)
  have M2_sd := Lib.hid (M2_s.out.below hb)
  have O_sd := Lib.hid (ho.toIn)
  clear ho
  clear hb
  go_wp2_with fail
  refine hK.out _ _ (show _ from ⟨⟨G_sd.out.1, G_sd.out.2.1, G_sd.out.2.2⟩, V_sd.out.1⟩) (fun hHeld => ?_)
  clear hK K
  try simp only [Act.put, List.getElem_toArray, List.getElem_cons_succ, List.getElem_cons_zero, List.setIfInBounds_toArray, List.set_cons_zero, List.set_cons_succ]
  refine wpAnyH_ready (rs := [6]) (by kernel_rfl) (by simp) ?_
  refine AllReadyH.cons rfl (fun K hK => ?_) (AllReadyH.nil)
  go_simp
  have hb := ba Wsd (.cells #[.slice ra es.length rcc, .slice a1 p.c.length c1] 25)
  have HB_sdg := Lib.hid (bt HB_sd.out hb)
  have G_sdg := Lib.hid (G_sd.out.below hb)
  have V_sdg := Lib.hid (V_sd.out.below hb)
  have C_sdg := Lib.hid (C_sd.out.below hb)
  have H_sdg := Lib.hid (H_sd.out.below hb)
  have M1_sdg := Lib.hid (M1_sd.out.below hb)
  have M2_sdg := Lib.hid (M2_sd.out.below hb)
  have O_sdg := Lib.hid (O_sd.out.below hb)
  have OO_sdg := Lib.hid (rows_pair O_sd.out C_sd.out 25)
  clear hb
  refine hK.out _ _ (show _ from ⟨⟨G_sdg.out.1, G_sdg.out.2.1, G_sdg.out.2.2⟩, V_sdg.out.1⟩) (fun hHeld => ?_)
  clear hK K
  try simp only [Act.put, List.getElem_toArray, List.getElem_cons_succ, List.getElem_cons_zero, List.setIfInBounds_toArray, List.set_cons_zero, List.set_cons_succ]
  generalize hW9 : Wsd.alloc (.cells #[.slice ra es.length rcc, .slice a1 p.c.length c1] 25) = Wsdg at *
  clear hW9
  refine wpAnyH_ready (rs := [7]) (by kernel_rfl) (by simp) ?_
  refine AllReadyH.cons rfl (fun K hK => ?_) (AllReadyH.nil)
  go_simp
  go_at_call 147
  refine (concatRows_any (by omega) HE0.out OO_sdg.out).mono ?_
  rintro e' Wsdgh ⟨rc3, rfl, ho, hb⟩
  obtain ⟨rb3, rcc3, rfl⟩ := ho.toIn.shape
  have HB_sdgh := Lib.hid (bt HB_sdg.out hb)
  have G_sdgh := Lib.hid (G_sdg.out.below hb)
  have V_sdgh := Lib.hid (V_sdg.out.below hb)
  have C_sdgh := Lib.hid (C_sdg.out.below hb)
  have H_sdgh := Lib.hid (H_sdg.out.below hb)
  have M1_sdgh := Lib.hid (M1_sdg.out.below hb)
  have M2_sdgh := Lib.hid (M2_sdg.out.below hb)
  have O_sdgh := Lib.hid (O_sdg.out.below hb)
  have OO_sdgh := Lib.hid (OO_sdg.out.below hb)
  have CC_sdgh := Lib.hid ho.toIn
  clear ho
  clear hb
  go_wp2_with fail
  refine hK.out _ _ (show _ from ⟨⟨G_sdgh.out.1, G_sdgh.out.2.1, G_sdgh.out.2.2⟩, V_sdgh.out.1⟩) (fun hHeld => ?_)
  clear hK K
  try simp only [Act.put, List.getElem_toArray, List.getElem_cons_succ, List.getElem_cons_zero, List.setIfInBounds_toArray, List.set_cons_zero, List.set_cons_succ]
  refine wpAnyH_ready (rs := [8]) (by kernel_rfl) (by simp) ?_
  refine AllReadyH.cons rfl (fun K hK => ?_) (AllReadyH.nil)
  go_simp
  go_at_call 146
  refine (challenge_any P Q G s hs _ _ _ (es ++ p.c) (by simp only [List.length_append]) (by omega) _ (CC_sdgh.out.ints).1).mono ?_
  rintro e' Wsdghi ⟨rfl, hb⟩
  have HB_sdghi := Lib.hid (bt HB_sdgh.out hb)
  have G_sdghi := Lib.hid (G_sdgh.out.below hb)
  have V_sdghi := Lib.hid (V_sdgh.out.below hb)
  have C_sdghi := Lib.hid (C_sdgh.out.below hb)
  have H_sdghi := Lib.hid (H_sdgh.out.below hb)
  have M1_sdghi := Lib.hid (M1_sdgh.out.below hb)
  have M2_sdghi := Lib.hid (M2_sdgh.out.below hb)
  have O_sdghi := Lib.hid (O_sdgh.out.below hb)
  have OO_sdghi := Lib.hid (OO_sdgh.out.below hb)
  have CC_sdghi := Lib.hid (CC_sdgh.out.below hb)
  clear hb
  go_wp2_with fail
  refine hK.out _ _ (show _ from ⟨⟨G_sdghi.out.1, G_sdghi.out.2.1, G_sdghi.out.2.2⟩, V_sdghi.out.1⟩) (fun hHeld => ?_)
  clear hK K
  try simp only [Act.put, List.getElem_toArray, List.getElem_cons_succ, List.getElem_cons_zero, List.setIfInBounds_toArray, List.set_cons_zero, List.set_cons_succ]
  refine wpAnyH_take (i := 9) (v := ?_) rfl (by kernel_rfl) (by kernel_rfl) (by kernel_rfl) (fun _ _ _ h => h) (Or.inl ⟨by kernel_rfl, ?_⟩) (by assumption) ?_
  rotate_left 1
  · intro w9 hSw
    try dsimp only at hSw
    go_simp
    try with_reducible rfl
  try simp only [Act.put, List.getElem_toArray, List.getElem_cons_succ, List.getElem_cons_zero, List.setIfInBounds_toArray, List.set_cons_zero, List.set_cons_succ]
  refine wpAnyH_take (i := 10) (v := ?_) rfl (by kernel_rfl) (by kernel_rfl) (by kernel_rfl) (fun _ _ _ h => h) (Or.inl ⟨by kernel_rfl, ?_⟩) (by assumption) ?_
  rotate_left 1
  · intro w9 hSw
    try dsimp only at hSw
    go_simp
    try with_reducible rfl
  try simp only [Act.put, List.getElem_toArray, List.getElem_cons_succ, List.getElem_cons_zero, List.setIfInBounds_toArray, List.set_cons_zero, List.set_cons_succ]
  refine wpAnyH_take (i := 11) (v := ?_) rfl (by kernel_rfl) (by kernel_rfl) (by kernel_rfl) (fun _ _ _ h => h) (Or.inl ⟨by kernel_rfl, ?_⟩) (by assumption) ?_
  rotate_left 1
  · intro w9 hSw
    try dsimp only at hSw
    go_simp
    try with_reducible rfl
  try simp only [Act.put, List.getElem_toArray, List.getElem_cons_succ, List.getElem_cons_zero, List.setIfInBounds_toArray, List.set_cons_zero, List.set_cons_succ]
  refine wpAnyH_take (i := 12) (v := ?_) rfl (by kernel_rfl) (by kernel_rfl) (by kernel_rfl) (fun _ _ _ h => h) (Or.inl ⟨by kernel_rfl, ?_⟩) (by assumption) ?_
  rotate_left 1
  · intro w9 hSw
    try dsimp only at hSw
    go_simp
    try with_reducible rfl
  try simp only [Act.put, List.getElem_toArray, List.getElem_cons_succ, List.getElem_cons_zero, List.setIfInBounds_toArray, List.set_cons_zero, List.set_cons_succ]
  refine wpAnyH_take (i := 13) (v := ?_) rfl (by kernel_rfl) (by kernel_rfl) (by kernel_rfl) (fun _ _ _ h => h) (Or.inl ⟨by kernel_rfl, ?_⟩) (by assumption) ?_
  rotate_left 1
  · intro w9 hSw
    try dsimp only at hSw
    go_simp
    try with_reducible rfl
  try simp only [Act.put, List.getElem_toArray, List.getElem_cons_succ, List.getElem_cons_zero, List.setIfInBounds_toArray, List.set_cons_zero, List.set_cons_succ]
  refine wpAnyH_done (by kernel_rfl) ?_ _
  have H_4 := Lib.hid H_sdghi.out
  have G_4 := Lib.hid G_sdghi.out
  have HBF := Lib.hid (bt HB_0.out HB_sdghi.out)
  obtain ⟨pv0, pv1, pv2, _⟩ := V_sdghi.out
  obtain ⟨g0, g1, g2⟩ := G_sdghi.out
  cases hk : chB P Q G s (es ++ p.c) 3
  · have HK := Lib.hid hk
    have HMS := Lib.hid (show msV P Q G s es p.c p.h = 0 by simp [msV, hk])
    go_wp2_with fail
    go_ret2
    exact ⟨by rw [HMS.out, HK.out]; rfl, HBF.out⟩
  · have HK := Lib.hid hk
    obtain ⟨ex, hex⟩ : ∃ ex, chX P Q G s (es ++ p.c) = ex := ⟨_, rfl⟩
    have HMS := Lib.hid (show msV P Q G s es p.c p.h = subF Q ex p.h by simp [msV, hk, hex])
    have hcv : chV P Q G s (es ++ p.c) = ex := by simp [chV, hk, hex]
    have hxr : 0 ≤ ex ∧ ex < Q := by rw [← hex]; exact chX_rng (by omega)
    rw [hcv]
    have HXR := Lib.hid hxr
    clear hcv hex hk hxr
    go_wp2_with fail
    clear pv0 pv1 pv2 g0 g1 g2
    go_loop [10, 13, 31] (fun E _ K => ∃ (k : Nat) (x : Int), k ≤ p.h.length ∧ K = .int .i64 k ∧ E = .int .i64 x ∧ (0 ≤ x ∧ x < Q) ∧ subF Q ex p.h = subF Q x (p.h.drop k)) (fun _ _ K => p.h.length - (intOf K).toNat)
    case atStart => exact ⟨0, ex, Nat.zero_le _, rfl, rfl, HXR.out, by simp⟩
    case round =>
      obtain ⟨k, x, hk, rfl, rfl, ⟨x0, x1⟩, he⟩ := hrel
      by_cases hkn : k < p.h.length
      · obtain ⟨b, off, c, hba, hb, hc, hd⟩ := (H_4.out.ints).1.at (k := k) hkn
        subst hba
        have hcr := HHI.out c (mem_drop hd)
        obtain ⟨y0', y1'⟩ := hcr
        have HS := Lib.hid (subF_step hd he)
        have hn0 : 0 ≤ (x - c) % Q := Int.emod_nonneg _ (by omega)
        have hn1 : (x - c) % Q < Q := Int.emod_lt_of_pos _ (by omega)
        obtain ⟨g0, g1, g2⟩ := G_4.out
        clear hd he
        go_wp2_with fail
        refine (ssub_any Q x c hQ2.1 hQ2.2 x0 x1 y0' y1' _).mono ?_
        rintro e' w' ⟨rfl, rfl⟩
        go_wp2_with fail
        go_round
        case rel => exact ⟨k + 1, _, by omega, by go_num, rfl, ⟨hn0, hn1⟩, HS.out⟩
        case measure => simp only [intOf]; omega
      · have HE := Lib.hid he
        clear he
        go_wp2_with fail
        go_ret2
        refine ⟨?_, HBF.out⟩
        rw [HMS.out, HE.out, List.drop_of_length_le (by omega), HK.out]; rfl

set_option maxRecDepth 100000 in
set_option maxHeartbeats 3200000 in
theorem msCho_any (P Q G : Int) (hg : goodB P Q G = true) (s : ByteArray) (hs : s.size ≤ 1048576) {B1 : Nat} {u1 : Value} {es : List Int} (hl : es.length ≤ 32) (h0 : 0 < es.length) {B : Nat} {v : Value} {p : PrD} (hpn : p.n ≤ 1048576) (hhi : ∀ e ∈ p.h, 0 ≤ e ∧ e < Q) {w : World} (hu1 : InE B1 w u1 es) (hP : InP B w v p) :
    Calls Try.prog 127 #[gv P Q G, .string s, .iface 98 u1, v] w (EqOut (.tuple #[.int .i64 (msV P Q G s (St.cho es).els p.c p.h), .bool (chB P Q G s ((St.cho es).els ++ p.c) 3)]) w) := by
  obtain ⟨y1, yn, y2, rfl, hyn, _, _⟩ := hu1.shape
  obtain ⟨a1, c1, a2, c2, a3, c3, rfl, h1, h2, h3⟩ := hP.parts
  obtain ⟨hl1, hl2, hl3⟩ : p.c.length ≤ 1048576 ∧ p.h.length ≤ 1048576 ∧ p.r.length ≤ 1048576 := by unfold PrD.n at hpn; omega
  have hcl9 : p.c.length ≤ 900000 ∨ 900000 < p.c.length := by omega
  have hQ2 : 2 ≤ Q ∧ Q ≤ 2000000000 := (good_rng hg).2.1
  have hm1 : ∀ (k : Nat) (W : World), (method (k + 1) 98 (.slice y1 yn y2) "loop.example/g00878/impl.elements").run Try.prog W = .ok (189, (.slice y1 yn y2)) W := fun _ _ => by kernel_rfl
  have hal := ba (w.alloc (.cells #[.int .i64 P, .int .i64 Q, .int .i64 G] 32)) (.cells #[.slice a1 p.c.length c1, .slice a2 p.h.length c2, .slice a3 p.r.length c3] 36)
  have HB_0 := Lib.hid (bt (ba w (.cells #[.int .i64 P, .int .i64 Q, .int .i64 G] 32)) hal)
  have G_0 := Lib.hid (GR.below (gr_new w P Q G 32) hal)
  have hv := b3_new (w.alloc (.cells #[.int .i64 P, .int .i64 Q, .int .i64 G] 32)) (.slice a1 p.c.length c1) (.slice a2 p.h.length c2) (.slice a3 p.r.length c3) 36
  have hs1 : (w.alloc (.cells #[.int .i64 P, .int .i64 Q, .int .i64 G] 32)).heap.size = w.heap.size + 1 := by simp
  rw [hs1] at hv
  have V_0 := Lib.hid hv
  have C_0 := Lib.hid (h1.below HB_0.out)
  have H_0 := Lib.hid (h2.below HB_0.out)
  have M1_0 := Lib.hid (hu1.below HB_0.out)
  have helc := fun (W : World) (h1 : InE B1 W (.slice y1 yn y2) es) => choElements_any hl h1
  have hel : (St.cho es).els = es := rfl
  rw [hel]
  have hesl : es.length ≤ 2000 ∧ 0 < es.length := by omega
  have HEL := Lib.hid helc
  have HHI := Lib.hid hhi
  have hesl0 := hesl.1
  have HE0 := Lib.hid hesl.2
  obtain ⟨g0, g1, g2⟩ := G_0.out
  obtain ⟨pv0, pv1, pv2, _⟩ := V_0.out
  have hsW : ((w.alloc (.cells #[.int .i64 P, .int .i64 Q, .int .i64 G] 32)).alloc (.cells #[.slice a1 p.c.length c1, .slice a2 p.h.length c2, .slice a3 p.r.length c3] 36)).heap.size = w.heap.size + 1 + 1 := by simp
  clear hal hv h1 h2 h3 hP helc hhi hel hs1 hesl hu1 hyn
  go_enter Try.func127, Try.ntmps127
  go_wp2_with fail
  generalize hW : ((w.alloc (.cells #[.int .i64 P, .int .i64 Q, .int .i64 G] 32)).alloc (.cells #[.slice a1 p.c.length c1, .slice a2 p.h.length c2, .slice a3 p.r.length c3] 36)) = W at *
  have HB_1 := Lib.hid (Below.refl W.heap.size W)
  have G_1 := Lib.hid G_0.out
  have V_1 := Lib.hid V_0.out
  have C_1 := Lib.hid C_0.out
  have H_1 := Lib.hid H_0.out
  have M1_1 := Lib.hid M1_0.out
  clear g0 g1 g2 pv0 pv1 pv2
  have hbd : Below W.heap.size W W.drew := (Below.refl _ W).drew
  have HB_s := Lib.hid (bt HB_1.out hbd)
  have G_s := Lib.hid (G_1.out.below hbd)
  have V_s := Lib.hid (V_1.out.below hbd)
  have C_s := Lib.hid (C_1.out.below hbd)
  have H_s := Lib.hid (H_1.out.below hbd)
  have M1_s := Lib.hid (M1_1.out.below hbd)
  clear hbd
  refine wp_region_held_drew (S := (fun w' => (w'.cell? ⟨w.heap.size, 0, none⟩ = some (.int .i64 P) ∧ w'.cell? ⟨w.heap.size, 1, none⟩ = some (.int .i64 Q) ∧ w'.cell? ⟨w.heap.size, 2, none⟩ = some (.int .i64 G)) ∧ w'.cell? ⟨w.heap.size + 1, 0, none⟩ = some (.slice a1 p.c.length c1))) (by kernel_rfl) (show _ from ⟨⟨G_1.out.1, G_1.out.2.1, G_1.out.2.2⟩, V_1.out.1⟩) (fun hHeld => ?_)
  generalize hW0 : W.drew = Ws at *
  clear hW0
  refine wpAnyH_take (i := 0) (v := ?_) rfl (by kernel_rfl) (by kernel_rfl) (by kernel_rfl) (fun _ _ _ h => h) (Or.inl ⟨by kernel_rfl, ?_⟩) (by assumption) ?_
  rotate_left 1
  · intro w9 hSw
    try dsimp only at hSw
    go_simp
    try with_reducible rfl
  try simp only [Act.put, List.getElem_toArray, List.getElem_cons_succ, List.getElem_cons_zero, List.setIfInBounds_toArray, List.set_cons_zero, List.set_cons_succ]
  refine wpAnyH_take (i := 1) (v := ?_) rfl (by kernel_rfl) (by kernel_rfl) (by kernel_rfl) (fun _ _ _ h => h) (Or.inl ⟨by kernel_rfl, ?_⟩) (by assumption) ?_
  rotate_left 1
  · intro w9 hSw
    try dsimp only at hSw
    go_simp
    try with_reducible rfl
  try simp only [Act.put, List.getElem_toArray, List.getElem_cons_succ, List.getElem_cons_zero, List.setIfInBounds_toArray, List.set_cons_zero, List.set_cons_succ]
  refine wpAnyH_take (i := 2) (v := ?_) rfl (by kernel_rfl) (by kernel_rfl) (by kernel_rfl) (fun _ _ _ h => h) (Or.inl ⟨by kernel_rfl, ?_⟩) (by assumption) ?_
  rotate_left 1
  · intro w9 hSw
    try dsimp only at hSw
    go_simp
    try with_reducible rfl
  try simp only [Act.put, List.getElem_toArray, List.getElem_cons_succ, List.getElem_cons_zero, List.setIfInBounds_toArray, List.set_cons_zero, List.set_cons_succ]
  refine wpAnyH_take (i := 4) (v := ?_) rfl (by kernel_rfl) (by kernel_rfl) (by kernel_rfl) (fun _ _ _ h => h) (Or.inl ⟨by kernel_rfl, ?_⟩) (by assumption) ?_
  rotate_left 1
  · intro w9 hSw
    try dsimp only at hSw
    go_simp
    try with_reducible rfl
  try simp only [Act.put, List.getElem_toArray, List.getElem_cons_succ, List.getElem_cons_zero, List.setIfInBounds_toArray, List.set_cons_zero, List.set_cons_succ]
  refine wpAnyH_take (i := 5) (v := ?_) rfl (by kernel_rfl) (by kernel_rfl) (by kernel_rfl) (fun _ _ _ h => h) (Or.inl ⟨by kernel_rfl, ?_⟩) (by assumption) ?_
  rotate_left 1
  · intro w9 hSw
    try dsimp only at hSw
    go_simp
    try with_reducible rfl
  try simp only [Act.put, List.getElem_toArray, List.getElem_cons_succ, List.getElem_cons_zero, List.setIfInBounds_toArray, List.set_cons_zero, List.set_cons_succ]
  refine wpAnyH_ready (rs := [3]) (by kernel_rfl) (by simp) ?_
  refine AllReadyH.cons rfl (fun K hK => ?_) (AllReadyH.nil)
  go_simp
  go_at_call 189
  refine (HEL.out _ M1_s.out).mono ?_
  rintro e' Wsd ⟨rc, rfl, ho, hb⟩
  obtain ⟨ra, rcc, rfl⟩ := (ho.toIn).shape
  have HB_sd := Lib.hid (bt HB_s.out hb)
  have G_sd := Lib.hid (G_s.out.below hb)
  have V_sd := Lib.hid (V_s.out.below hb)
  have C_sd := Lib.hid (C_s.out.below hb)
  have H_sd := Lib.hid (H_s.out.below hb)
  have M1_sd := Lib.hid (M1_s.out.below hb)
  have O_sd := Lib.hid (ho.toIn)
  clear ho
  clear hb
  go_wp2_with fail
  refine hK.out _ _ (show _ from ⟨⟨G_sd.out.1, G_sd.out.2.1, G_sd.out.2.2⟩, V_sd.out.1⟩) (fun hHeld => ?_)
  clear hK K
  try simp only [Act.put, List.getElem_toArray, List.getElem_cons_succ, List.getElem_cons_zero, List.setIfInBounds_toArray, List.set_cons_zero, List.set_cons_succ]
  refine wpAnyH_ready (rs := [6]) (by kernel_rfl) (by simp) ?_
  refine AllReadyH.cons rfl (fun K hK => ?_) (AllReadyH.nil)
  go_simp
  have hb := ba Wsd (.cells #[.slice ra es.length rcc, .slice a1 p.c.length c1] 25)
  have HB_sdg := Lib.hid (bt HB_sd.out hb)
  have G_sdg := Lib.hid (G_sd.out.below hb)
  have V_sdg := Lib.hid (V_sd.out.below hb)
  have C_sdg := Lib.hid (C_sd.out.below hb)
  have H_sdg := Lib.hid (H_sd.out.below hb)
  have M1_sdg := Lib.hid (M1_sd.out.below hb)
  have O_sdg := Lib.hid (O_sd.out.below hb)
  have OO_sdg := Lib.hid (rows_pair O_sd.out C_sd.out 25)
  clear hb
  refine hK.out _ _ (show _ from ⟨⟨G_sdg.out.1, G_sdg.out.2.1, G_sdg.out.2.2⟩, V_sdg.out.1⟩) (fun hHeld => ?_)
  clear hK K
  try simp only [Act.put, List.getElem_toArray, List.getElem_cons_succ, List.getElem_cons_zero, List.setIfInBounds_toArray, List.set_cons_zero, List.set_cons_succ]
  generalize hW9 : Wsd.alloc (.cells #[.slice ra es.length rcc, .slice a1 p.c.length c1] 25) = Wsdg at *
  clear hW9
  refine wpAnyH_ready (rs := [7]) (by kernel_rfl) (by simp) ?_
  refine AllReadyH.cons rfl (fun K hK => ?_) (AllReadyH.nil)
  go_simp
  go_at_call 147
  refine (concatRows_any (by omega) HE0.out OO_sdg.out).mono ?_
  rintro e' Wsdgh ⟨rc3, rfl, ho, hb⟩
  obtain ⟨rb3, rcc3, rfl⟩ := ho.toIn.shape
  have HB_sdgh := Lib.hid (bt HB_sdg.out hb)
  have G_sdgh := Lib.hid (G_sdg.out.below hb)
  have V_sdgh := Lib.hid (V_sdg.out.below hb)
  have C_sdgh := Lib.hid (C_sdg.out.below hb)
  have H_sdgh := Lib.hid (H_sdg.out.below hb)
  have M1_sdgh := Lib.hid (M1_sdg.out.below hb)
  have O_sdgh := Lib.hid (O_sdg.out.below hb)
  have OO_sdgh := Lib.hid (OO_sdg.out.below hb)
  have CC_sdgh := Lib.hid ho.toIn
  clear ho
  clear hb
  go_wp2_with fail
  refine hK.out _ _ (show _ from ⟨⟨G_sdgh.out.1, G_sdgh.out.2.1, G_sdgh.out.2.2⟩, V_sdgh.out.1⟩) (fun hHeld => ?_)
  clear hK K
  try simp only [Act.put, List.getElem_toArray, List.getElem_cons_succ, List.getElem_cons_zero, List.setIfInBounds_toArray, List.set_cons_zero, List.set_cons_succ]
  refine wpAnyH_ready (rs := [8]) (by kernel_rfl) (by simp) ?_
  refine AllReadyH.cons rfl (fun K hK => ?_) (AllReadyH.nil)
  go_simp
  go_at_call 146
  refine (challenge_any P Q G s hs _ _ _ (es ++ p.c) (by simp only [List.length_append]) (by omega) _ (CC_sdgh.out.ints).1).mono ?_
  rintro e' Wsdghi ⟨rfl, hb⟩
  have HB_sdghi := Lib.hid (bt HB_sdgh.out hb)
  have G_sdghi := Lib.hid (G_sdgh.out.below hb)
  have V_sdghi := Lib.hid (V_sdgh.out.below hb)
  have C_sdghi := Lib.hid (C_sdgh.out.below hb)
  have H_sdghi := Lib.hid (H_sdgh.out.below hb)
  have M1_sdghi := Lib.hid (M1_sdgh.out.below hb)
  have O_sdghi := Lib.hid (O_sdgh.out.below hb)
  have OO_sdghi := Lib.hid (OO_sdgh.out.below hb)
  have CC_sdghi := Lib.hid (CC_sdgh.out.below hb)
  clear hb
  go_wp2_with fail
  refine hK.out _ _ (show _ from ⟨⟨G_sdghi.out.1, G_sdghi.out.2.1, G_sdghi.out.2.2⟩, V_sdghi.out.1⟩) (fun hHeld => ?_)
  clear hK K
  try simp only [Act.put, List.getElem_toArray, List.getElem_cons_succ, List.getElem_cons_zero, List.setIfInBounds_toArray, List.set_cons_zero, List.set_cons_succ]
  refine wpAnyH_take (i := 9) (v := ?_) rfl (by kernel_rfl) (by kernel_rfl) (by kernel_rfl) (fun _ _ _ h => h) (Or.inl ⟨by kernel_rfl, ?_⟩) (by assumption) ?_
  rotate_left 1
  · intro w9 hSw
    try dsimp only at hSw
    go_simp
    try with_reducible rfl
  try simp only [Act.put, List.getElem_toArray, List.getElem_cons_succ, List.getElem_cons_zero, List.setIfInBounds_toArray, List.set_cons_zero, List.set_cons_succ]
  refine wpAnyH_take (i := 10) (v := ?_) rfl (by kernel_rfl) (by kernel_rfl) (by kernel_rfl) (fun _ _ _ h => h) (Or.inl ⟨by kernel_rfl, ?_⟩) (by assumption) ?_
  rotate_left 1
  · intro w9 hSw
    try dsimp only at hSw
    go_simp
    try with_reducible rfl
  try simp only [Act.put, List.getElem_toArray, List.getElem_cons_succ, List.getElem_cons_zero, List.setIfInBounds_toArray, List.set_cons_zero, List.set_cons_succ]
  refine wpAnyH_take (i := 11) (v := ?_) rfl (by kernel_rfl) (by kernel_rfl) (by kernel_rfl) (fun _ _ _ h => h) (Or.inl ⟨by kernel_rfl, ?_⟩) (by assumption) ?_
  rotate_left 1
  · intro w9 hSw
    try dsimp only at hSw
    go_simp
    try with_reducible rfl
  try simp only [Act.put, List.getElem_toArray, List.getElem_cons_succ, List.getElem_cons_zero, List.setIfInBounds_toArray, List.set_cons_zero, List.set_cons_succ]
  refine wpAnyH_take (i := 12) (v := ?_) rfl (by kernel_rfl) (by kernel_rfl) (by kernel_rfl) (fun _ _ _ h => h) (Or.inl ⟨by kernel_rfl, ?_⟩) (by assumption) ?_
  rotate_left 1
  · intro w9 hSw
    try dsimp only at hSw
    go_simp
    try with_reducible rfl
  try simp only [Act.put, List.getElem_toArray, List.getElem_cons_succ, List.getElem_cons_zero, List.setIfInBounds_toArray, List.set_cons_zero, List.set_cons_succ]
  refine wpAnyH_take (i := 13) (v := ?_) rfl (by kernel_rfl) (by kernel_rfl) (by kernel_rfl) (fun _ _ _ h => h) (Or.inl ⟨by kernel_rfl, ?_⟩) (by assumption) ?_
  rotate_left 1
  · intro w9 hSw
    try dsimp only at hSw
    go_simp
    try with_reducible rfl
  try simp only [Act.put, List.getElem_toArray, List.getElem_cons_succ, List.getElem_cons_zero, List.setIfInBounds_toArray, List.set_cons_zero, List.set_cons_succ]
  refine wpAnyH_done (by kernel_rfl) ?_ _
  have H_4 := Lib.hid H_sdghi.out
  have G_4 := Lib.hid G_sdghi.out
  have HBF := Lib.hid (bt HB_0.out HB_sdghi.out)
  obtain ⟨pv0, pv1, pv2, _⟩ := V_sdghi.out
  obtain ⟨g0, g1, g2⟩ := G_sdghi.out
  cases hk : chB P Q G s (es ++ p.c) 3
  · have HK := Lib.hid hk
    have HMS := Lib.hid (show msV P Q G s es p.c p.h = 0 by simp [msV, hk])
    go_wp2_with fail
    go_ret2
    exact ⟨by rw [HMS.out, HK.out]; rfl, HBF.out⟩
  · have HK := Lib.hid hk
    obtain ⟨ex, hex⟩ : ∃ ex, chX P Q G s (es ++ p.c) = ex := ⟨_, rfl⟩
    have HMS := Lib.hid (show msV P Q G s es p.c p.h = subF Q ex p.h by simp [msV, hk, hex])
    have hcv : chV P Q G s (es ++ p.c) = ex := by simp [chV, hk, hex]
    have hxr : 0 ≤ ex ∧ ex < Q := by rw [← hex]; exact chX_rng (by omega)
    rw [hcv]
    have HXR := Lib.hid hxr
    clear hcv hex hk hxr
    go_wp2_with fail
    clear pv0 pv1 pv2 g0 g1 g2
    go_loop [10, 13, 31] (fun E _ K => ∃ (k : Nat) (x : Int), k ≤ p.h.length ∧ K = .int .i64 k ∧ E = .int .i64 x ∧ (0 ≤ x ∧ x < Q) ∧ subF Q ex p.h = subF Q x (p.h.drop k)) (fun _ _ K => p.h.length - (intOf K).toNat)
    case atStart => exact ⟨0, ex, Nat.zero_le _, rfl, rfl, HXR.out, by simp⟩
    case round =>
      obtain ⟨k, x, hk, rfl, rfl, ⟨x0, x1⟩, he⟩ := hrel
      by_cases hkn : k < p.h.length
      · obtain ⟨b, off, c, hba, hb, hc, hd⟩ := (H_4.out.ints).1.at (k := k) hkn
        subst hba
        have hcr := HHI.out c (mem_drop hd)
        obtain ⟨y0', y1'⟩ := hcr
        have HS := Lib.hid (subF_step hd he)
        have hn0 : 0 ≤ (x - c) % Q := Int.emod_nonneg _ (by omega)
        have hn1 : (x - c) % Q < Q := Int.emod_lt_of_pos _ (by omega)
        obtain ⟨g0, g1, g2⟩ := G_4.out
        clear hd he
        go_wp2_with fail
        refine (ssub_any Q x c hQ2.1 hQ2.2 x0 x1 y0' y1' _).mono ?_
        rintro e' w' ⟨rfl, rfl⟩
        go_wp2_with fail
        go_round
        case rel => exact ⟨k + 1, _, by omega, by go_num, rfl, ⟨hn0, hn1⟩, HS.out⟩
        case measure => simp only [intOf]; omega
      · have HE := Lib.hid he
        clear he
        go_wp2_with fail
        go_ret2
        refine ⟨?_, HBF.out⟩
        rw [HMS.out, HE.out, List.drop_of_length_le (by omega), HK.out]; rfl

set_option maxRecDepth 100000 in
set_option maxHeartbeats 3200000 in
theorem msClm_any (P Q G : Int) (hg : goodB P Q G = true) (s : ByteArray) (hs : s.size ≤ 1048576) {B1 : Nat} {u1 u2 : Value} {ps : List LinD} {es : List Int} (hl : es.length ≤ 72) (h0 : 0 < es.length) {B : Nat} {v : Value} {p : PrD} (hpn : p.n ≤ 1048576) (hhi : ∀ e ∈ p.h, 0 ≤ e ∧ e < Q) {w : World} (hu1 : InL w u1 ps) (hu2 : InI B1 w u2 es) (hP : InP B w v p) :
    Calls Try.prog 127 #[gv P Q G, .string s, .iface 118 (.agg #[u1, u2]), v] w (EqOut (.tuple #[.int .i64 (msV P Q G s (St.clm ps es).els p.c p.h), .bool (chB P Q G s ((St.clm ps es).els ++ p.c) 3)]) w) := by
  obtain ⟨y1, y2, rfl, _⟩ := id hu1
  obtain ⟨z1, z2, rfl⟩ := hu2.shape
  obtain ⟨a1, c1, a2, c2, a3, c3, rfl, h1, h2, h3⟩ := hP.parts
  obtain ⟨hl1, hl2, hl3⟩ : p.c.length ≤ 1048576 ∧ p.h.length ≤ 1048576 ∧ p.r.length ≤ 1048576 := by unfold PrD.n at hpn; omega
  have hcl9 : p.c.length ≤ 900000 ∨ 900000 < p.c.length := by omega
  have hQ2 : 2 ≤ Q ∧ Q ≤ 2000000000 := (good_rng hg).2.1
  have hm1 : ∀ (k : Nat) (W : World), (method (k + 1) 118 (.agg #[.slice (some ⟨y1, 0, none⟩) ps.length y2, .slice z1 es.length z2]) "loop.example/g00878/impl.elements").run Try.prog W = .ok (190, (.agg #[.slice (some ⟨y1, 0, none⟩) ps.length y2, .slice z1 es.length z2])) W := fun _ _ => by kernel_rfl
  have hal := ba (w.alloc (.cells #[.int .i64 P, .int .i64 Q, .int .i64 G] 32)) (.cells #[.slice a1 p.c.length c1, .slice a2 p.h.length c2, .slice a3 p.r.length c3] 36)
  have HB_0 := Lib.hid (bt (ba w (.cells #[.int .i64 P, .int .i64 Q, .int .i64 G] 32)) hal)
  have G_0 := Lib.hid (GR.below (gr_new w P Q G 32) hal)
  have hv := b3_new (w.alloc (.cells #[.int .i64 P, .int .i64 Q, .int .i64 G] 32)) (.slice a1 p.c.length c1) (.slice a2 p.h.length c2) (.slice a3 p.r.length c3) 36
  have hs1 : (w.alloc (.cells #[.int .i64 P, .int .i64 Q, .int .i64 G] 32)).heap.size = w.heap.size + 1 := by simp
  rw [hs1] at hv
  have V_0 := Lib.hid hv
  have C_0 := Lib.hid (h1.below HB_0.out)
  have H_0 := Lib.hid (h2.below HB_0.out)
  have M1_0 := Lib.hid (hu1.below HB_0.out)
  have M2_0 := Lib.hid (hu2.below HB_0.out)
  have helc := fun (W : World) (h1 : InL W (.slice (some ⟨y1, 0, none⟩) ps.length y2) ps) (h2 : InI B1 W (.slice z1 es.length z2) es) => clmElements_any h1 h2
  have hel : (St.clm ps es).els = es := rfl
  rw [hel]
  have hesl : es.length ≤ 2000 ∧ 0 < es.length := by omega
  have HEL := Lib.hid helc
  have HHI := Lib.hid hhi
  have hesl0 := hesl.1
  have HE0 := Lib.hid hesl.2
  obtain ⟨g0, g1, g2⟩ := G_0.out
  obtain ⟨pv0, pv1, pv2, _⟩ := V_0.out
  have hsW : ((w.alloc (.cells #[.int .i64 P, .int .i64 Q, .int .i64 G] 32)).alloc (.cells #[.slice a1 p.c.length c1, .slice a2 p.h.length c2, .slice a3 p.r.length c3] 36)).heap.size = w.heap.size + 1 + 1 := by simp
  clear hal hv h1 h2 h3 hP helc hhi hel hs1 hesl hu1 hu2
  go_enter Try.func127, Try.ntmps127
  go_wp2_with fail
  generalize hW : ((w.alloc (.cells #[.int .i64 P, .int .i64 Q, .int .i64 G] 32)).alloc (.cells #[.slice a1 p.c.length c1, .slice a2 p.h.length c2, .slice a3 p.r.length c3] 36)) = W at *
  have HB_1 := Lib.hid (Below.refl W.heap.size W)
  have G_1 := Lib.hid G_0.out
  have V_1 := Lib.hid V_0.out
  have C_1 := Lib.hid C_0.out
  have H_1 := Lib.hid H_0.out
  have M1_1 := Lib.hid M1_0.out
  have M2_1 := Lib.hid M2_0.out
  clear g0 g1 g2 pv0 pv1 pv2
  have hbd : Below W.heap.size W W.drew := (Below.refl _ W).drew
  have HB_s := Lib.hid (bt HB_1.out hbd)
  have G_s := Lib.hid (G_1.out.below hbd)
  have V_s := Lib.hid (V_1.out.below hbd)
  have C_s := Lib.hid (C_1.out.below hbd)
  have H_s := Lib.hid (H_1.out.below hbd)
  have M1_s := Lib.hid (M1_1.out.below hbd)
  have M2_s := Lib.hid (M2_1.out.below hbd)
  clear hbd
  refine wp_region_held_drew (S := (fun w' => (w'.cell? ⟨w.heap.size, 0, none⟩ = some (.int .i64 P) ∧ w'.cell? ⟨w.heap.size, 1, none⟩ = some (.int .i64 Q) ∧ w'.cell? ⟨w.heap.size, 2, none⟩ = some (.int .i64 G)) ∧ w'.cell? ⟨w.heap.size + 1, 0, none⟩ = some (.slice a1 p.c.length c1))) (by kernel_rfl) (show _ from ⟨⟨G_1.out.1, G_1.out.2.1, G_1.out.2.2⟩, V_1.out.1⟩) (fun hHeld => ?_)
  generalize hW0 : W.drew = Ws at *
  clear hW0
  refine wpAnyH_take (i := 0) (v := ?_) rfl (by kernel_rfl) (by kernel_rfl) (by kernel_rfl) (fun _ _ _ h => h) (Or.inl ⟨by kernel_rfl, ?_⟩) (by assumption) ?_
  rotate_left 1
  · intro w9 hSw
    try dsimp only at hSw
    go_simp
    try with_reducible rfl
  try simp only [Act.put, List.getElem_toArray, List.getElem_cons_succ, List.getElem_cons_zero, List.setIfInBounds_toArray, List.set_cons_zero, List.set_cons_succ]
  refine wpAnyH_take (i := 1) (v := ?_) rfl (by kernel_rfl) (by kernel_rfl) (by kernel_rfl) (fun _ _ _ h => h) (Or.inl ⟨by kernel_rfl, ?_⟩) (by assumption) ?_
  rotate_left 1
  · intro w9 hSw
    try dsimp only at hSw
    go_simp
    try with_reducible rfl
  try simp only [Act.put, List.getElem_toArray, List.getElem_cons_succ, List.getElem_cons_zero, List.setIfInBounds_toArray, List.set_cons_zero, List.set_cons_succ]
  refine wpAnyH_take (i := 2) (v := ?_) rfl (by kernel_rfl) (by kernel_rfl) (by kernel_rfl) (fun _ _ _ h => h) (Or.inl ⟨by kernel_rfl, ?_⟩) (by assumption) ?_
  rotate_left 1
  · intro w9 hSw
    try dsimp only at hSw
    go_simp
    try with_reducible rfl
  try simp only [Act.put, List.getElem_toArray, List.getElem_cons_succ, List.getElem_cons_zero, List.setIfInBounds_toArray, List.set_cons_zero, List.set_cons_succ]
  refine wpAnyH_take (i := 4) (v := ?_) rfl (by kernel_rfl) (by kernel_rfl) (by kernel_rfl) (fun _ _ _ h => h) (Or.inl ⟨by kernel_rfl, ?_⟩) (by assumption) ?_
  rotate_left 1
  · intro w9 hSw
    try dsimp only at hSw
    go_simp
    try with_reducible rfl
  try simp only [Act.put, List.getElem_toArray, List.getElem_cons_succ, List.getElem_cons_zero, List.setIfInBounds_toArray, List.set_cons_zero, List.set_cons_succ]
  refine wpAnyH_take (i := 5) (v := ?_) rfl (by kernel_rfl) (by kernel_rfl) (by kernel_rfl) (fun _ _ _ h => h) (Or.inl ⟨by kernel_rfl, ?_⟩) (by assumption) ?_
  rotate_left 1
  · intro w9 hSw
    try dsimp only at hSw
    go_simp
    try with_reducible rfl
  try simp only [Act.put, List.getElem_toArray, List.getElem_cons_succ, List.getElem_cons_zero, List.setIfInBounds_toArray, List.set_cons_zero, List.set_cons_succ]
  refine wpAnyH_ready (rs := [3]) (by kernel_rfl) (by simp) ?_
  refine AllReadyH.cons rfl (fun K hK => ?_) (AllReadyH.nil)
  go_simp
  go_at_call 190
  refine (HEL.out _ M1_s.out M2_s.out).mono ?_
  rintro e' Wsd ⟨rc, rfl, ho, hb⟩
  obtain ⟨ra, rcc, rfl⟩ := (ho).shape
  have HB_sd := Lib.hid (bt HB_s.out hb)
  have G_sd := Lib.hid (G_s.out.below hb)
  have V_sd := Lib.hid (V_s.out.below hb)
  have C_sd := Lib.hid (C_s.out.below hb)
  have H_sd := Lib.hid (H_s.out.below hb)
  have M1_sd := Lib.hid (M1_s.out.below hb)
  have M2_sd := Lib.hid (M2_s.out.below hb)
  have O_sd := Lib.hid (ho)
  clear ho
  clear hb
  go_wp2_with fail
  refine hK.out _ _ (show _ from ⟨⟨G_sd.out.1, G_sd.out.2.1, G_sd.out.2.2⟩, V_sd.out.1⟩) (fun hHeld => ?_)
  clear hK K
  try simp only [Act.put, List.getElem_toArray, List.getElem_cons_succ, List.getElem_cons_zero, List.setIfInBounds_toArray, List.set_cons_zero, List.set_cons_succ]
  refine wpAnyH_ready (rs := [6]) (by kernel_rfl) (by simp) ?_
  refine AllReadyH.cons rfl (fun K hK => ?_) (AllReadyH.nil)
  go_simp
  have hb := ba Wsd (.cells #[.slice ra es.length rcc, .slice a1 p.c.length c1] 25)
  have HB_sdg := Lib.hid (bt HB_sd.out hb)
  have G_sdg := Lib.hid (G_sd.out.below hb)
  have V_sdg := Lib.hid (V_sd.out.below hb)
  have C_sdg := Lib.hid (C_sd.out.below hb)
  have H_sdg := Lib.hid (H_sd.out.below hb)
  have M1_sdg := Lib.hid (M1_sd.out.below hb)
  have M2_sdg := Lib.hid (M2_sd.out.below hb)
  have O_sdg := Lib.hid (O_sd.out.below hb)
  have OO_sdg := Lib.hid (rows_pair O_sd.out C_sd.out 25)
  clear hb
  refine hK.out _ _ (show _ from ⟨⟨G_sdg.out.1, G_sdg.out.2.1, G_sdg.out.2.2⟩, V_sdg.out.1⟩) (fun hHeld => ?_)
  clear hK K
  try simp only [Act.put, List.getElem_toArray, List.getElem_cons_succ, List.getElem_cons_zero, List.setIfInBounds_toArray, List.set_cons_zero, List.set_cons_succ]
  generalize hW9 : Wsd.alloc (.cells #[.slice ra es.length rcc, .slice a1 p.c.length c1] 25) = Wsdg at *
  clear hW9
  refine wpAnyH_ready (rs := [7]) (by kernel_rfl) (by simp) ?_
  refine AllReadyH.cons rfl (fun K hK => ?_) (AllReadyH.nil)
  go_simp
  go_at_call 147
  refine (concatRows_any (by omega) HE0.out OO_sdg.out).mono ?_
  rintro e' Wsdgh ⟨rc3, rfl, ho, hb⟩
  obtain ⟨rb3, rcc3, rfl⟩ := ho.toIn.shape
  have HB_sdgh := Lib.hid (bt HB_sdg.out hb)
  have G_sdgh := Lib.hid (G_sdg.out.below hb)
  have V_sdgh := Lib.hid (V_sdg.out.below hb)
  have C_sdgh := Lib.hid (C_sdg.out.below hb)
  have H_sdgh := Lib.hid (H_sdg.out.below hb)
  have M1_sdgh := Lib.hid (M1_sdg.out.below hb)
  have M2_sdgh := Lib.hid (M2_sdg.out.below hb)
  have O_sdgh := Lib.hid (O_sdg.out.below hb)
  have OO_sdgh := Lib.hid (OO_sdg.out.below hb)
  have CC_sdgh := Lib.hid ho.toIn
  clear ho
  clear hb
  go_wp2_with fail
  refine hK.out _ _ (show _ from ⟨⟨G_sdgh.out.1, G_sdgh.out.2.1, G_sdgh.out.2.2⟩, V_sdgh.out.1⟩) (fun hHeld => ?_)
  clear hK K
  try simp only [Act.put, List.getElem_toArray, List.getElem_cons_succ, List.getElem_cons_zero, List.setIfInBounds_toArray, List.set_cons_zero, List.set_cons_succ]
  refine wpAnyH_ready (rs := [8]) (by kernel_rfl) (by simp) ?_
  refine AllReadyH.cons rfl (fun K hK => ?_) (AllReadyH.nil)
  go_simp
  go_at_call 146
  refine (challenge_any P Q G s hs _ _ _ (es ++ p.c) (by simp only [List.length_append]) (by omega) _ (CC_sdgh.out.ints).1).mono ?_
  rintro e' Wsdghi ⟨rfl, hb⟩
  have HB_sdghi := Lib.hid (bt HB_sdgh.out hb)
  have G_sdghi := Lib.hid (G_sdgh.out.below hb)
  have V_sdghi := Lib.hid (V_sdgh.out.below hb)
  have C_sdghi := Lib.hid (C_sdgh.out.below hb)
  have H_sdghi := Lib.hid (H_sdgh.out.below hb)
  have M1_sdghi := Lib.hid (M1_sdgh.out.below hb)
  have M2_sdghi := Lib.hid (M2_sdgh.out.below hb)
  have O_sdghi := Lib.hid (O_sdgh.out.below hb)
  have OO_sdghi := Lib.hid (OO_sdgh.out.below hb)
  have CC_sdghi := Lib.hid (CC_sdgh.out.below hb)
  clear hb
  go_wp2_with fail
  refine hK.out _ _ (show _ from ⟨⟨G_sdghi.out.1, G_sdghi.out.2.1, G_sdghi.out.2.2⟩, V_sdghi.out.1⟩) (fun hHeld => ?_)
  clear hK K
  try simp only [Act.put, List.getElem_toArray, List.getElem_cons_succ, List.getElem_cons_zero, List.setIfInBounds_toArray, List.set_cons_zero, List.set_cons_succ]
  refine wpAnyH_take (i := 9) (v := ?_) rfl (by kernel_rfl) (by kernel_rfl) (by kernel_rfl) (fun _ _ _ h => h) (Or.inl ⟨by kernel_rfl, ?_⟩) (by assumption) ?_
  rotate_left 1
  · intro w9 hSw
    try dsimp only at hSw
    go_simp
    try with_reducible rfl
  try simp only [Act.put, List.getElem_toArray, List.getElem_cons_succ, List.getElem_cons_zero, List.setIfInBounds_toArray, List.set_cons_zero, List.set_cons_succ]
  refine wpAnyH_take (i := 10) (v := ?_) rfl (by kernel_rfl) (by kernel_rfl) (by kernel_rfl) (fun _ _ _ h => h) (Or.inl ⟨by kernel_rfl, ?_⟩) (by assumption) ?_
  rotate_left 1
  · intro w9 hSw
    try dsimp only at hSw
    go_simp
    try with_reducible rfl
  try simp only [Act.put, List.getElem_toArray, List.getElem_cons_succ, List.getElem_cons_zero, List.setIfInBounds_toArray, List.set_cons_zero, List.set_cons_succ]
  refine wpAnyH_take (i := 11) (v := ?_) rfl (by kernel_rfl) (by kernel_rfl) (by kernel_rfl) (fun _ _ _ h => h) (Or.inl ⟨by kernel_rfl, ?_⟩) (by assumption) ?_
  rotate_left 1
  · intro w9 hSw
    try dsimp only at hSw
    go_simp
    try with_reducible rfl
  try simp only [Act.put, List.getElem_toArray, List.getElem_cons_succ, List.getElem_cons_zero, List.setIfInBounds_toArray, List.set_cons_zero, List.set_cons_succ]
  refine wpAnyH_take (i := 12) (v := ?_) rfl (by kernel_rfl) (by kernel_rfl) (by kernel_rfl) (fun _ _ _ h => h) (Or.inl ⟨by kernel_rfl, ?_⟩) (by assumption) ?_
  rotate_left 1
  · intro w9 hSw
    try dsimp only at hSw
    go_simp
    try with_reducible rfl
  try simp only [Act.put, List.getElem_toArray, List.getElem_cons_succ, List.getElem_cons_zero, List.setIfInBounds_toArray, List.set_cons_zero, List.set_cons_succ]
  refine wpAnyH_take (i := 13) (v := ?_) rfl (by kernel_rfl) (by kernel_rfl) (by kernel_rfl) (fun _ _ _ h => h) (Or.inl ⟨by kernel_rfl, ?_⟩) (by assumption) ?_
  rotate_left 1
  · intro w9 hSw
    try dsimp only at hSw
    go_simp
    try with_reducible rfl
  try simp only [Act.put, List.getElem_toArray, List.getElem_cons_succ, List.getElem_cons_zero, List.setIfInBounds_toArray, List.set_cons_zero, List.set_cons_succ]
  refine wpAnyH_done (by kernel_rfl) ?_ _
  have H_4 := Lib.hid H_sdghi.out
  have G_4 := Lib.hid G_sdghi.out
  have HBF := Lib.hid (bt HB_0.out HB_sdghi.out)
  obtain ⟨pv0, pv1, pv2, _⟩ := V_sdghi.out
  obtain ⟨g0, g1, g2⟩ := G_sdghi.out
  cases hk : chB P Q G s (es ++ p.c) 3
  · have HK := Lib.hid hk
    have HMS := Lib.hid (show msV P Q G s es p.c p.h = 0 by simp [msV, hk])
    go_wp2_with fail
    go_ret2
    exact ⟨by rw [HMS.out, HK.out]; rfl, HBF.out⟩
  · have HK := Lib.hid hk
    obtain ⟨ex, hex⟩ : ∃ ex, chX P Q G s (es ++ p.c) = ex := ⟨_, rfl⟩
    have HMS := Lib.hid (show msV P Q G s es p.c p.h = subF Q ex p.h by simp [msV, hk, hex])
    have hcv : chV P Q G s (es ++ p.c) = ex := by simp [chV, hk, hex]
    have hxr : 0 ≤ ex ∧ ex < Q := by rw [← hex]; exact chX_rng (by omega)
    rw [hcv]
    have HXR := Lib.hid hxr
    clear hcv hex hk hxr
    go_wp2_with fail
    clear pv0 pv1 pv2 g0 g1 g2
    go_loop [10, 13, 31] (fun E _ K => ∃ (k : Nat) (x : Int), k ≤ p.h.length ∧ K = .int .i64 k ∧ E = .int .i64 x ∧ (0 ≤ x ∧ x < Q) ∧ subF Q ex p.h = subF Q x (p.h.drop k)) (fun _ _ K => p.h.length - (intOf K).toNat)
    case atStart => exact ⟨0, ex, Nat.zero_le _, rfl, rfl, HXR.out, by simp⟩
    case round =>
      obtain ⟨k, x, hk, rfl, rfl, ⟨x0, x1⟩, he⟩ := hrel
      by_cases hkn : k < p.h.length
      · obtain ⟨b, off, c, hba, hb, hc, hd⟩ := (H_4.out.ints).1.at (k := k) hkn
        subst hba
        have hcr := HHI.out c (mem_drop hd)
        obtain ⟨y0', y1'⟩ := hcr
        have HS := Lib.hid (subF_step hd he)
        have hn0 : 0 ≤ (x - c) % Q := Int.emod_nonneg _ (by omega)
        have hn1 : (x - c) % Q < Q := Int.emod_lt_of_pos _ (by omega)
        obtain ⟨g0, g1, g2⟩ := G_4.out
        clear hd he
        go_wp2_with fail
        refine (ssub_any Q x c hQ2.1 hQ2.2 x0 x1 y0' y1' _).mono ?_
        rintro e' w' ⟨rfl, rfl⟩
        go_wp2_with fail
        go_round
        case rel => exact ⟨k + 1, _, by omega, by go_num, rfl, ⟨hn0, hn1⟩, HS.out⟩
        case measure => simp only [intOf]; omega
      · have HE := Lib.hid he
        clear he
        go_wp2_with fail
        go_ret2
        refine ⟨?_, HBF.out⟩
        rw [HMS.out, HE.out, List.drop_of_length_le (by omega), HK.out]; rfl

end Go.Proofs.Ytlgdcfficemebaa

