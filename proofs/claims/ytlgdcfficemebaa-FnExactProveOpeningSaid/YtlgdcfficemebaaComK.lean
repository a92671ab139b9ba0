/- Claims about commitments, the program: the prover completes a draft. -/
import Derived.Test.YtlgdcfficemebaaSigM
import Derived.Test.YtlgdcfficemebaaComG
namespace Go.Proofs.Ytlgdcfficemebaa
open Go.RowKit
set_option linter.unusedVariables false
set_option linter.unusedSimpArgs false

/-- All blocks that were there are as they were, but for two. -/
def Two (gh gr : Nat) (w w' : World) : Prop := w.heap.size ≤ w'.heap.size ∧ ∀ b, b < w.heap.size → b ≠ gh → b ≠ gr → w'.heap[b]? = w.heap[b]?
theorem Two.ofBelow {gh gr : Nat} {w w' : World} (h : Below w.heap.size w w') : Two gh gr w w' := ⟨h.size, fun b hb _ _ => h.block b hb⟩
theorem Two.mid {gh gr A : Nat} {w a b : World} (h : Two gh gr w a) (hm : Mid A (A + 1) a b) (hA : A = gh ∨ A = gr ∨ w.heap.size ≤ A) : Two gh gr w b :=
  ⟨Nat.le_trans h.1 hm.size, fun k hk h1 h2 => (hm.block k (Nat.lt_of_lt_of_le hk h.1) (by omega)).trans (h.2 k hk h1 h2)⟩
theorem Two.cell {gh gr b i : Nat} {w w' : World} {v : Value} (h : Two gh gr w w') (hc : w.cell? ⟨b, i, none⟩ = some v) (h1 : b ≠ gh) (h2 : b ≠ gr) : w'.cell? ⟨b, i, none⟩ = some v := by
  rw [World.cell?_of_block (a := ⟨b, i, none⟩) (h.2 b (World.block_lt_of_cell? w _ hc) h1 h2)]; exact hc

set_option maxRecDepth 100000 in
set_option maxHeartbeats 6400000 in
theorem completeClm_any (P Q G : Int) (hg : goodB P Q G = true) (s : ByteArray) (hs : s.size ≤ 40) {u1 u2 : Value} {ps : List LinD} {es : List Int} {QC PC QX PX base M gh ch gr cr x2 : Nat} {x1 : Option Addr} {dh dr xs : List Int} (hok : (St.clm ps es).ok P Q = true) {w : World} (hu : KP QC PC (fun w' => InL w' u1 ps ∧ ∃ B, InI B w' u2 es) w) (hCs : (PC ≤ gh ∨ gh + 1 ≤ QC) ∧ (PC ≤ gr ∨ gr + 1 ≤ QC)) (hH : OwI base M w (.slice (some ⟨gh, 0, none⟩) dh.length ch) dh) (hR : OwI M w.heap.size w (.slice (some ⟨gr, 0, none⟩) dr.length cr) dr) (hX : KP QX PX (fun w' => IsInts w' x1 xs) w) (hXs : (PX ≤ gh ∨ gh + 1 ≤ QX) ∧ (PX ≤ gr ∨ gr + 1 ≤ QX)) (hXb : xs ≠ [] → ∀ a, x1 = some a → some a.block ≠ some gr)
    (hdh : dh.length = (St.clm ps es).parts.length) (hdr : dr.length = nCols (St.clm ps es).parts) (hdi : allIn dh 0 (Q - 1) = true) (hri : allIn dr 0 (Q - 1) = true) (hxi : allIn xs 0 (Q - 1) = true) (hxl : xs.length ≤ dr.length) (hdp : 0 < dr.length) :
    Calls Try.prog 78 #[gv P Q G, .string s, .iface 118 (.agg #[u1, u2]), pv3 none 0 0 (some ⟨gh, 0, none⟩) dh.length ch (some ⟨gr, 0, none⟩) dr.length cr, .int .i64 0, .slice x1 xs.length x2] w (fun e w' => AnsQ base w (cplP P Q G s (St.clm ps es) dh dr 0 xs) true e w' ∧ Two gh gr w w') := by
  have hu0 : InL w u1 ps ∧ ∃ B, InI B w u2 es := hu.out
  obtain ⟨⟨y1, y2, rfl, _⟩, _, hu2⟩ := hu0
  obtain ⟨z1, z2, rfl⟩ := hu2.shape
  clear hu2
  obtain ⟨f1, f9, f5, f6, f7, f8⟩ := clm_facts hok
  have hm2 : ∀ (k : Nat) (W : World), (method (k + 1) 118 (.agg #[.slice (some ⟨y1, 0, none⟩) ps.length y2, .slice z1 es.length z2]) "loop.example/g00878/impl.parts").run Try.prog W = .ok (191, (.agg #[.slice (some ⟨y1, 0, none⟩) ps.length y2, .slice z1 es.length z2])) W := fun _ _ => by kernel_rfl
  have hfr := f7.1.rows (St.clm ps es).parts.length (Nat.le_refl _)
  rw [List.take_length] at hfr
  have h8 := f7.1.1
  obtain ⟨hhl, hrl⟩ : dh.length ≤ 8 ∧ dr.length ≤ 64 := by omega
  have hdi0 := all_ex hdi
  obtain ⟨cm, hcm⟩ : ∃ cm, cmts P Q (St.clm ps es).parts dh dr = cm := ⟨_, rfl⟩
  have hcme : allEl P Q cm = true := hcm ▸ cmts_el hg _ _ _ (fun p hp => ⟨fun r hr => ((f7.2 p hp).1 r hr).2, (f7.2 p hp).2.2⟩) (fun e he => (hdi0 e he).1) hri
  have hcml : cm.length ≤ 64 := by have h9 := cmts_len (P := P) (Q := Q) (St.clm ps es).parts dh dr (fun q hq => (f7.1.2 q hq).2.1); rw [hcm] at h9; omega
  have hch : chB P Q G s ((St.clm ps es).els ++ cm) 3 = true := ch_ok hg hs (by rw [List.length_append]; omega) (all_app f6 hcme)
  have hq := (good_rng hg).2.1
  obtain ⟨c, hc⟩ : ∃ c, missV P Q G s (St.clm ps es) cm dh = c := ⟨_, rfl⟩
  have hcr : 0 ≤ c ∧ c < Q := by
    rw [← hc]; unfold missV
    exact subF_rng (Q := Q) (e := 0) (by omega) ⟨by omega, by omega⟩ dh _ (chX_rng (by omega))
  have hcp : cplP P Q G s (St.clm ps es) dh dr 0 xs = ⟨cm, dh.set 0 c, dr.take (0 * xs.length) ++ sxpy Q (dr.drop (0 * xs.length)) c xs⟩ := by unfold cplP; simp only [hcm, hc]
  have hms := (msV_on (ch := dh) hch).trans hc
  rw [hcp]
  rw [Nat.zero_mul]
  have HCM := Lib.hid hcm
  have HCH := Lib.hid hch
  have HMS := Lib.hid hms
  have HG := Lib.hid hg
  have F7 := Lib.hid f7
  have HDI := Lib.hid hdi
  have HDI0 := Lib.hid hdi0
  have HRI := Lib.hid hri
  have HRI0 := Lib.hid (all_ex hri)
  have HXI := Lib.hid (all_ex hxi)
  have HDH := Lib.hid hdh
  have HDR := Lib.hid hdr
  have hgh := hH.gblk
  have hgr := hR.gblk
  have hMw := hR.2.2.2
  have hPX := hX.1
  have hPC := hu.1
  have HXB := Lib.hid hXb
  clear hXb
  clear hcm hch hms hg f6 f7 hdi hdi0 hri hxi hcme hc hcp hfr hok hdh hdr
  have G_0 := Lib.hid (((gr_new w P Q G 32).below (ba _ (.cells #[.slice none 0 0, .slice (some ⟨gh, 0, none⟩) dh.length ch, .slice (some ⟨gr, 0, none⟩) dr.length cr] 36))).below (ba _ (.cells #[.slice none 0 0, .slice none 0 0, .slice none 0 0] 36)))
  have hv := (b3_new (w.alloc (.cells #[.int .i64 P, .int .i64 Q, .int .i64 G] 32)) (.slice none 0 0) (.slice (some ⟨gh, 0, none⟩) dh.length ch) (.slice (some ⟨gr, 0, none⟩) dr.length cr) 36).below (ba _ (.cells #[.slice none 0 0, .slice none 0 0, .slice none 0 0] 36))
  rw [show (w.alloc (.cells #[.int .i64 P, .int .i64 Q, .int .i64 G] 32)).heap.size = w.heap.size + 1 by simp] at hv
  have V_0 := Lib.hid hv
  have hz := b3_new ((w.alloc (.cells #[.int .i64 P, .int .i64 Q, .int .i64 G] 32)).alloc (.cells #[.slice none 0 0, .slice (some ⟨gh, 0, none⟩) dh.length ch, .slice (some ⟨gr, 0, none⟩) dr.length cr] 36)) (.slice none 0 0) (.slice none 0 0) (.slice none 0 0) 36
  rw [show ((w.alloc (.cells #[.int .i64 P, .int .i64 Q, .int .i64 G] 32)).alloc (.cells #[.slice none 0 0, .slice (some ⟨gh, 0, none⟩) dh.length ch, .slice (some ⟨gr, 0, none⟩) dr.length cr] 36)).heap.size = w.heap.size + 2 by simp] at hz
  have Z_0 := Lib.hid hz
  have HB_0 := Lib.hid (bt (bt (ba w (.cells #[.int .i64 P, .int .i64 Q, .int .i64 G] 32)) (ba _ (.cells #[.slice none 0 0, .slice (some ⟨gh, 0, none⟩) dh.length ch, .slice (some ⟨gr, 0, none⟩) dr.length cr] 36))) (ba _ (.cells #[.slice none 0 0, .slice none 0 0, .slice none 0 0] 36)))
  have H_0 := Lib.hid (hH.below HB_0.out)
  have R_0 := Lib.hid (hR.below HB_0.out)
  have X_0 := Lib.hid (hX.below HB_0.out)
  have M1_0 := Lib.hid (hu.below HB_0.out)
  clear hv hz hH hR hX hu
  obtain ⟨W, hW⟩ : ∃ W, ((w.alloc (.cells #[.int .i64 P, .int .i64 Q, .int .i64 G] 32)).alloc (.cells #[.slice none 0 0, .slice (some ⟨gh, 0, none⟩) dh.length ch, .slice (some ⟨gr, 0, none⟩) dr.length cr] 36)).alloc (.cells #[.slice none 0 0, .slice none 0 0, .slice none 0 0] 36) = W := ⟨_, rfl⟩
  rw [hW] at HB_0 G_0 V_0 Z_0 H_0 R_0 X_0 M1_0
  have PP_0 := Lib.hid (show InP W.heap.size W (pv3 none 0 0 (some ⟨gh, 0, none⟩) dh.length ch (some ⟨gr, 0, none⟩) dr.length cr) ⟨[], dh, dr⟩ from ⟨_, _, _, rfl, InI.of (.inl rfl) (fun _ => rfl) (Nat.le_refl _), H_0.out.toIn.wide (by have := HB_0.out.size; omega) (Nat.le_refl _), R_0.out.toIn.wide HB_0.out.size (Nat.le_refl _)⟩)
  obtain ⟨g0, g1, g2⟩ := G_0.out
  obtain ⟨p0, p1, p2, pf⟩ := V_0.out
  go_enter Try.func78, Try.ntmps78
  go_wp2_with fail
  clear hW
  refine wpK_begin (n := 6) (S := (fun w' => (w'.cell? ⟨w.heap.size, 0, none⟩ = some (.int .i64 P) ∧ w'.cell? ⟨w.heap.size, 1, none⟩ = some (.int .i64 Q) ∧ w'.cell? ⟨w.heap.size, 2, none⟩ = some (.int .i64 G)) ∧ w'.cell? ⟨w.heap.size + 1, 0, none⟩ = some (.slice none 0 0) ∧ w'.cell? ⟨w.heap.size + 1, 1, none⟩ = some (.slice (some ⟨gh, 0, none⟩) dh.length ch) ∧ w'.cell? ⟨w.heap.size + 1, 2, none⟩ = some (.slice (some ⟨gr, 0, none⟩) dr.length cr))) (by kernel_rfl) ?_
  refine wpK_take (i := 0) (v := ?_) rfl (by kernel_rfl) (by kernel_rfl) (by kernel_rfl) (by kernel_rfl) (fun _ _ _ h => h) (Or.inl ⟨by kernel_rfl, ?_⟩) (show _ from ⟨⟨G_0.out.1, G_0.out.2.1, G_0.out.2.2⟩, V_0.out.1, V_0.out.2.1, V_0.out.2.2.1⟩) ?_
  rotate_left 1
  · intro w9 hSw
    (try dsimp only at hSw)
    go_simp
    (try with_reducible rfl)
  (try simp only [Act.put, List.getElem_toArray, List.getElem_cons_succ, List.getElem_cons_zero, List.setIfInBounds_toArray, List.set_cons_zero, List.set_cons_succ])
  refine wpK_take (i := 1) (v := ?_) rfl (by kernel_rfl) (by kernel_rfl) (by kernel_rfl) (by kernel_rfl) (fun _ _ _ h => h) (Or.inl ⟨by kernel_rfl, ?_⟩) (show _ from ⟨⟨G_0.out.1, G_0.out.2.1, G_0.out.2.2⟩, V_0.out.1, V_0.out.2.1, V_0.out.2.2.1⟩) ?_
  rotate_left 1
  · intro w9 hSw
    (try dsimp only at hSw)
    go_simp
    (try with_reducible rfl)
  (try simp only [Act.put, List.getElem_toArray, List.getElem_cons_succ, List.getElem_cons_zero, List.setIfInBounds_toArray, List.set_cons_zero, List.set_cons_succ])
  refine wpK_take (i := 3) (v := ?_) rfl (by kernel_rfl) (by kernel_rfl) (by kernel_rfl) (by kernel_rfl) (fun _ _ _ h => h) (Or.inl ⟨by kernel_rfl, ?_⟩) (show _ from ⟨⟨G_0.out.1, G_0.out.2.1, G_0.out.2.2⟩, V_0.out.1, V_0.out.2.1, V_0.out.2.2.1⟩) ?_
  rotate_left 1
  · intro w9 hSw
    (try dsimp only at hSw)
    go_simp
    (try with_reducible rfl)
  (try simp only [Act.put, List.getElem_toArray, List.getElem_cons_succ, List.getElem_cons_zero, List.setIfInBounds_toArray, List.set_cons_zero, List.set_cons_succ])
  refine wpK_one (i := 2) (by kernel_rfl) rfl ?_
  intro K' hK
  go_simp
  go_at_call 191
  refine (clmParts_any M1_0.out.drew.out.1 M1_0.out.drew.out.2.choose_spec).mono ?_
  rintro e vp ⟨rp, rfl, hL, hb0⟩
  obtain ⟨lg, lc, rfl, _⟩ := id hL
  have hb : Below W.heap.size W vp := bt ((Below.refl _ W).drew) hb0
  clear hb0
  have HB_p := Lib.hid (bt HB_0.out hb)
  have G_p := Lib.hid (G_0.out.below hb)
  have V_p := Lib.hid (V_0.out.below hb)
  have Z_p := Lib.hid (Z_0.out.below hb)
  have H_p := Lib.hid (H_0.out.below hb)
  have R_p := Lib.hid (R_0.out.below hb)
  have X_p := Lib.hid (X_0.out.below hb)
  have PP_p := Lib.hid (PP_0.out.below hb)
  have M1_p := Lib.hid (M1_0.out.below hb)
  clear hb
  have L_p := Lib.hid hL
  clear hL
  go_wp2_with fail
  refine hK.out _ _ (fun _ => ⟨⟨G_p.out.1, G_p.out.2.1, G_p.out.2.2⟩, V_p.out.1, V_p.out.2.1, V_p.out.2.2.1⟩) ?_
  clear hK K'
  (try simp only [Act.put, List.getElem_toArray, List.getElem_cons_succ, List.getElem_cons_zero, List.setIfInBounds_toArray, List.set_cons_zero, List.set_cons_succ])
  refine wpK_one (i := 4) (by kernel_rfl) rfl ?_
  intro K' hK
  go_simp
  go_at_call 126
  refine (commitsOf_any P Q G HG.out F7.out f8 HDH.out HDR.out HDI.out HRI.out L_p.out PP_p.out).mono ?_
  rw [HCM.out]
  rintro e vq ⟨rc, rfl, ho, hb⟩
  obtain ⟨rca, rcc, rfl⟩ := ho.toIn.shape
  have HB_q := Lib.hid (bt HB_p.out hb)
  have G_q := Lib.hid (G_p.out.below hb)
  have V_q := Lib.hid (V_p.out.below hb)
  have Z_q := Lib.hid (Z_p.out.below hb)
  have H_q := Lib.hid (H_p.out.below hb)
  have R_q := Lib.hid (R_p.out.below hb)
  have X_q := Lib.hid (X_p.out.below hb)
  have PP_q := Lib.hid (PP_p.out.below hb)
  have M1_q := Lib.hid (M1_p.out.below hb)
  clear hb
  have C_q := Lib.hid ho
  clear ho
  go_wp2_with fail
  refine hK.out _ _ (fun _ => ⟨⟨G_q.out.1, G_q.out.2.1, G_q.out.2.2⟩, V_q.out.1, V_q.out.2.1, V_q.out.2.2.1⟩) ?_
  clear hK K'
  (try simp only [Act.put, List.getElem_toArray, List.getElem_cons_succ, List.getElem_cons_zero, List.setIfInBounds_toArray, List.set_cons_zero, List.set_cons_succ])
  refine wpK_take (i := 5) (v := ?_) rfl (by kernel_rfl) (by kernel_rfl) (by kernel_rfl) (by kernel_rfl) (fun _ _ _ h => h) (Or.inl ⟨by kernel_rfl, ?_⟩) ⟨⟨G_q.out.1, G_q.out.2.1, G_q.out.2.2⟩, V_q.out.1, V_q.out.2.1, V_q.out.2.2.1⟩ ?_
  rotate_left 1
  · intro w9 hSw
    (try dsimp only at hSw)
    go_simp
    (try with_reducible rfl)
  (try simp only [Act.put, List.getElem_toArray, List.getElem_cons_succ, List.getElem_cons_zero, List.setIfInBounds_toArray, List.set_cons_zero, List.set_cons_succ])
  refine wpK_one (i := 6) (by kernel_rfl) rfl ?_
  intro K' hK
  obtain ⟨u0, u1, u2, uf⟩ := V_q.out
  have uf0 := uf 0
  clear uf
  go_simp
  refine hK.out _ _ (fun h => absurd rfl h) ?_
  clear hK K'
  (try simp only [Act.put, List.getElem_toArray, List.getElem_cons_succ, List.getElem_cons_zero, List.setIfInBounds_toArray, List.set_cons_zero, List.set_cons_succ])
  refine wpK_done (by kernel_rfl) ?_ _
  have hwq : w.heap.size + 2 < vq.heap.size := Z_q.out.lt
  have hm : Mid (w.heap.size + 1) (w.heap.size + 1 + 1) vq (vq.setCell ⟨w.heap.size + 1, 0, none⟩ (.slice rca cm.length rcc)) := mid_cell _ _ _ _
  have V_r := Lib.hid (V_q.out.set0 (.slice rca cm.length rcc))
  have G_r := Lib.hid (G_q.out.mid hm (.inl (by omega)))
  have Z_r := Lib.hid (Z_q.out.mid hm (.inr (by omega)))
  have H_r := Lib.hid (H_q.out.mid hm (.inl (by omega)))
  have R_r := Lib.hid (R_q.out.mid hm (.inl (by omega)))
  have X_r := Lib.hid (X_q.out.mid hm (by omega))
  have C_r := Lib.hid (C_q.out.mid hm (.inr (by have := Z_p.out.lt; omega)))
  have HB_r := Lib.hid (HB_q.out.trans (hm.toBelow (by omega) (by omega)))
  have M1_r := Lib.hid (M1_q.out.mid hm (by omega))
  have hcs := C_r.out.2.2.1
  generalize hX2 : vq.setCell ⟨w.heap.size + 1, 0, none⟩ (.slice rca cm.length rcc) = vr at *
  have PP_r := Lib.hid (show InP vr.heap.size vr (pv3 rca cm.length rcc (some ⟨gh, 0, none⟩) dh.length ch (some ⟨gr, 0, none⟩) dr.length cr) ⟨cm, dh, dr⟩ from ⟨_, _, _, rfl, C_r.out.toIn.wide hcs (Nat.le_refl _), H_r.out.toIn.wide H_r.out.2.2.1 (Nat.le_refl _), R_r.out.toIn.wide R_r.out.2.2.1 (Nat.le_refl _)⟩)
  clear hm g0 g1 g2 p0 p1 p2 pf
  obtain ⟨g0, g1, g2⟩ := G_r.out
  obtain ⟨p0, p1, p2, pf⟩ := V_r.out
  go_wp2_with fail
  refine (msClm_any P Q G HG.out s (by omega) f1 f9 (p := ⟨cm, dh, dr⟩) (by unfold PrD.n; simp only []; omega) HDI0.out M1_r.out.out.1 M1_r.out.out.2.choose_spec PP_r.out).mono ?_
  rw [HMS.out, HCH.out]
  rintro e vs ⟨rfl, hb⟩
  have HB_s := Lib.hid (HB_r.out.trans (hb.mono HB_r.out.size))
  have G_s := Lib.hid (G_r.out.below hb)
  have V_s := Lib.hid (V_r.out.below hb)
  have Z_s := Lib.hid (Z_r.out.below hb)
  have H_s := Lib.hid (H_r.out.below hb)
  have R_s := Lib.hid (R_r.out.below hb)
  have X_s := Lib.hid (X_r.out.below hb)
  have C_s := Lib.hid (C_r.out.below hb)
  have M1_s := Lib.hid (M1_r.out.below hb)
  have hws := Z_s.out.lt
  have hcss := C_s.out.2.2.1
  clear hb g0 g1 g2 p0 p1 p2 pf
  obtain ⟨g0, g1, g2⟩ := G_s.out
  obtain ⟨p0, p1, p2, pf⟩ := V_s.out
  have hwd : 0 < dh.length := by have := HDH.out; omega
  obtain ⟨hc0, hf0⟩ := sown_at H_s.out.1 (j := 0) hwd (z := dh[0]) (by simp [hwd])
  have hcap := own_cap R_s.out.1
  have hcz : ¬ cr = 0 := by have := HDR.out; have := HDH.out; omega
  go_wp2_with fail
  have hm : Mid gh (gh + 1) vs (vs.setCell ⟨gh, 0, none⟩ (.int .i64 c)) := mid_cell _ _ _ _
  have G_t := Lib.hid (G_s.out.mid hm (.inr (by omega)))
  have V_t := Lib.hid (V_s.out.mid hm (.inr (by omega)))
  have Z_t := Lib.hid (Z_s.out.mid hm (.inr (by omega)))
  have H_t := Lib.hid (H_s.out.put (j := 0) c)
  have R_t := Lib.hid (R_s.out.mid hm (.inr (by omega)))
  have X_t := Lib.hid (X_s.out.mid hm (by omega))
  have C_t := Lib.hid (C_s.out.mid hm (.inr (by have := HB_p.out.size; omega)))
  have HB_t := Lib.hid ((HB_s.out.mono (show base ≤ w.heap.size by omega)).trans (hm.toBelow (by omega) (by have := HB_s.out.size; omega)))
  have TW_t := Lib.hid ((Two.ofBelow (gh := gh) (gr := gr) HB_s.out).mid hm (.inl rfl))
  clear g0 g1 g2 p0 p1 p2 pf hc0 hf0
  obtain ⟨g0, g1, g2⟩ := G_t.out
  obtain ⟨p0, p1, p2, pf⟩ := V_t.out
  have hst := hm.size
  generalize hX3 : vs.setCell ⟨gh, 0, none⟩ (.int .i64 c) = vt at *
  clear hm
  have hw0 : IntKind.i64.wrap 0 = 0 := by decide
  have htest := saddMultiple_any Q c M gr 0 dr.length cr dr.length cr dr x1 xs.length x2 xs hq.1 hq.2 hcr.1 hcr.2 HRI0.out HXI.out rfl (by omega) (by omega) (by omega) vt.drew R_t.out.1 X_t.out.out HXB.out
  have HT := Lib.hid htest
  clear htest
  go_region_held3 (fun w' => (w'.cell? ⟨w.heap.size, 0, none⟩ = some (.int .i64 P) ∧ w'.cell? ⟨w.heap.size, 1, none⟩ = some (.int .i64 Q) ∧ w'.cell? ⟨w.heap.size, 2, none⟩ = some (.int .i64 G)) ∧ w'.cell? ⟨w.heap.size + 1, 0, none⟩ = some (.slice rca cm.length rcc) ∧ w'.cell? ⟨w.heap.size + 1, 1, none⟩ = some (.slice (some ⟨gh, 0, none⟩) dh.length ch) ∧ w'.cell? ⟨w.heap.size + 1, 2, none⟩ = some (.slice (some ⟨gr, 0, none⟩) dr.length cr)) (first | with_reducible exact ⟨⟨s0, s1, s2⟩, t0, t1, t2⟩ | exact ⟨⟨g0, g1, g2⟩, p0, p1, p2⟩) ((first
    | (go_at_call 128; refine HT.out.mono ?_; rintro e vu ⟨⟨ev, rfl⟩, hown, hgrow⟩; have hm2' : Mid gr (gr + 1) vt vu := (Mid.ofBelow ((Below.refl _ vt).drew)).trans (mid_grow hgrow); have HO := Lib.hid hown; have HMU := Lib.hid hm2'; obtain ⟨s0, s1, s2⟩ := G_t.out.mid hm2' (.inr (by omega)); obtain ⟨t0, t1, t2, _⟩ := V_t.out.mid hm2' (.inr (by omega)); clear hown hgrow hm2')
    | fail))
  all_goals (
    have hm4 := HMU.out
    have V_u := Lib.hid (V_t.out.mid hm4 (.inr (by omega)))
    have Z_u := Lib.hid (Z_t.out.mid hm4 (.inr (by omega)))
    have H_u := Lib.hid (H_t.out.mid hm4 (.inl hgr.1))
    have R_u := Lib.hid (R_t.out.same HO.out (by first | (simp [sxpy_length]; done) | (simp [sxpy_length]; omega)) hm4)
    have C_u := Lib.hid (C_t.out.mid hm4 (.inr (by have := HB_p.out.size; omega)))
    have HB_u := Lib.hid (HB_t.out.trans (hm4.toBelow (by omega) (by have := HB_t.out.size; omega)))
    have TW_u := Lib.hid (TW_t.out.mid hm4 (.inr (.inl rfl)))
    clear hm4
    obtain ⟨q0, q1, q2, _⟩ := V_u.out
    obtain ⟨y0, y1, y2, yf⟩ := Z_u.out
    have yf0 := yf 0
    have yf1 := yf 1
    have yf2 := yf 2
    clear yf
    have hlu := Z_u.out.lt
    go_wp2
    (try simp only [Exit.inBlock, Exit.then])
    refine bodyPost_ret (v := .tuple #[pv3 rca cm.length rcc (some ⟨gh, 0, none⟩) dh.length ch (some ⟨gr, 0, none⟩) dr.length cr, .bool true]) ?_ rfl ?_
    · rw [results_cell_tmp rfl]; go_simp
    · have hm5 := mid3 vu (w.heap.size + 2) (.slice rca cm.length rcc) (.slice (some ⟨gh, 0, none⟩) dh.length ch) (.slice (some ⟨gr, 0, none⟩) dr.length cr)
      have h1 := H_u.out.mid hm5 (.inl (by omega))
      have h2 := R_u.out.mid hm5 (.inl (by omega))
      have h3 := C_u.out.mid hm5 (.inr (by have := HB_p.out.size; have := Z_p.out.lt; omega))
      rw [List.length_set] at h1
      rw [show (dr.take 0 ++ sxpy Q (dr.drop 0) c xs).length = dr.length by first | (simp [sxpy_length]; done) | (simp [sxpy_length]; omega)] at h2
      exact ⟨⟨_, _, _, rfl, ⟨_, _, _, M, w.heap.size, rfl, h1, h2, h3.wide HB_p.out.size h3.2.2.1 (Nat.le_refl _)⟩, HB_u.out.trans (hm5.toBelow (by omega) (by have := HB_u.out.size; omega))⟩, TW_u.out.mid hm5 (.inr (.inr (by omega)))⟩)

end Go.Proofs.Ytlgdcfficemebaa

/- Chapter 9, the program: a proof of an opening is made. -/
namespace Go.Proofs.Ytlgdcfficemebaa
open Go.RowKit
set_option linter.unusedVariables false
set_option linter.unusedSimpArgs false

theorem opB_size (P Q G H : Int) (hs : List Int) (m r : Int) (cs : List Int) : (opV P Q G H hs m r cs).n ≤ 24 := by
  unfold opV
  split
  · rename_i h
    unfold opB at h
    simp only [Bool.and_eq_true, decide_eq_true_eq] at h
    simp [opP, spE, PrD.n, imgs, sxpy_length, h.2.1]
  · simp [nilP, PrD.n]

theorem exs_al {Q : Int} {cs : List Int} : exsB Q cs = (decide (cs.length ≤ 24) && allIn cs 0 (Q - 1)) := by
  unfold exsB allIn exB; rfl
theorem mid_c {w w' : World} {A B b i : Nat} {v : Value} (hm : Mid A B w w') (h : w.cell? ⟨b, i, none⟩ = some v) (ho : b < A ∨ B ≤ b) : w'.cell? ⟨b, i, none⟩ = some v := by
  rw [World.cell?_of_block (a := ⟨b, i, none⟩) (hm.block b (World.block_lt_of_cell? w _ h) ho)]; exact h
theorem mid_d2 {w w' : World} {A B b : Nat} {x y : Value} (h : D2 w b x y) (hm : Mid A B w w') (ho : b < A ∨ B ≤ b) : D2 w' b x y := ⟨mid_c hm h.1 ho, mid_c hm h.2 ho⟩

theorem cm_el {P Q G H m r : Int} {hs : List Int} (h : bsB P Q G H hs = true) (hmr : allIn [m, r] 0 (Q - 1) = true) : elB P Q (cmW P G H m r) = true := by
  have hg := bs_good h
  have := pows_el hg [G, H] [m, r] 1 (one_el hg) (by simp [allEl, good_el hg, bs_H h]) hmr
  rwa [pows_two (good_mo hg).1.1] at this

set_option maxRecDepth 100000 in
set_option maxHeartbeats 6400000 in
theorem proveOpening_any (P Q G H m r : Int) {B C : Nat} {y u : Value} {hs cs : List Int} (hl : hs.length ≤ 1048576) (hcl : cs.length ≤ 1048576) {w : World} (hy : InI B w y hs) (hu : InI C w u cs) :
    Calls Try.prog 52 #[gv P Q G, .agg #[.int .i64 H, y], .int .i64 m, .int .i64 r, u] w (AnsQ w.heap.size w (opV P Q G H hs m r cs) (opB P Q G H hs m r cs)) := by
  obtain ⟨ya, yc, rfl⟩ := hy.shape
  obtain ⟨xa, xc, rfl⟩ := hu.shape
  have G_9 := Lib.hid ((gr_at w (w.heap.size) (by simp) P Q G 32).below (ba (w.alloc (.cells #[.int .i64 P, .int .i64 Q, .int .i64 G] 32)) (.cells #[.int .i64 H, .slice ya hs.length yc] 73)))
  have V_9 := Lib.hid (d2_at (w.alloc (.cells #[.int .i64 P, .int .i64 Q, .int .i64 G] 32)) (w.heap.size + 1) (by simp) (.int .i64 H) (.slice ya hs.length yc) 73)
  have HB_9 := Lib.hid (show Below w.heap.size w ((w.alloc (.cells #[.int .i64 P, .int .i64 Q, .int .i64 G] 32)).alloc (.cells #[.int .i64 H, .slice ya hs.length yc] 73)) from bt (ba _ _) (ba _ _))
  have G_0 := Lib.hid (G_9.out.below (ba _ (.cells #[.slice none 0 0, .slice none 0 0, .slice none 0 0] 36)))
  have V_0 := Lib.hid (V_9.out.below (ba _ (.cells #[.slice none 0 0, .slice none 0 0, .slice none 0 0] 36)))
  have hv := b3_new ((w.alloc (.cells #[.int .i64 P, .int .i64 Q, .int .i64 G] 32)).alloc (.cells #[.int .i64 H, .slice ya hs.length yc] 73)) (.slice none 0 0) (.slice none 0 0) (.slice none 0 0) 36
  rw [show ((w.alloc (.cells #[.int .i64 P, .int .i64 Q, .int .i64 G] 32)).alloc (.cells #[.int .i64 H, .slice ya hs.length yc] 73)).heap.size = w.heap.size + 2 by simp] at hv
  have Z_0 := Lib.hid hv
  have HB_0 := Lib.hid (bt HB_9.out (ba _ (.cells #[.slice none 0 0, .slice none 0 0, .slice none 0 0] 36)))
  have Y_0 := Lib.hid (hy.below HB_0.out)
  have C_0 := Lib.hid (hu.below HB_0.out)
  have HCM := Lib.hid (fun (W : World) (h : InI B W (.slice ya hs.length yc) hs) => commit_any P Q G H (by omega) m r h)
  obtain ⟨c0, hcv⟩ : ∃ c, cmV P Q G H hs m r = c := ⟨_, rfl⟩
  rw [hcv] at HCM
  clear hv hy hu G_9 V_9 HB_9
  cases h0 : cmB P Q G H hs m r
  · have K0 := Lib.hid (show cmB P Q G H hs m r = false from h0)
    have E1 := Lib.hid (show opB P Q G H hs m r cs = false by simp [opB, h0])
    rw [E1.out, op_off E1.out]
    clear h0
    obtain ⟨gG0, gG1, gG2⟩ := G_0.out
    obtain ⟨rZ0, rZ1, rZ2, rfZ⟩ := Z_0.out
    have rfZ0 := rfZ 0
    have rfZ1 := rfZ 1
    have rfZ2 := rfZ 2
    obtain ⟨cV0, cV1⟩ := V_0.out
    go_enter Try.func52, Try.ntmps52
    go_wp2_with fail
    refine (HCM.out _ Y_0.out).mono ?_
    rw [K0.out]
    rintro e v1 ⟨rfl, hb⟩
    have HB_1 := Lib.hid (bt HB_0.out hb)
    have G_1 := Lib.hid (G_0.out.below hb)
    have V_1 := Lib.hid (V_0.out.below hb)
    have Z_1 := Lib.hid (Z_0.out.below hb)
    have Y_1 := Lib.hid (Y_0.out.below hb)
    have C_1 := Lib.hid (C_0.out.below hb)
    clear hb gG0 gG1 gG2 rZ0 rZ1 rZ2 rfZ rfZ0 rfZ1 rfZ2 cV0 cV1
    obtain ⟨gG0, gG1, gG2⟩ := G_1.out
    obtain ⟨rZ0, rZ1, rZ2, rfZ⟩ := Z_1.out
    have rfZ0 := rfZ 0
    have rfZ1 := rfZ 1
    have rfZ2 := rfZ 2
    obtain ⟨cV0, cV1⟩ := V_1.out
    go_wp2
    (try simp only [Exit.inBlock, Exit.then])
    refine bodyPost_ret (v := .tuple #[.agg #[.slice none 0 0, .slice none 0 0, .slice none 0 0], .bool false]) ?_ rfl ?_
    · rw [results_cell_tmp rfl]; go_simp
    · have hm5 := mid3 v1 (w.heap.size + 2) (.slice none 0 0) (.slice none 0 0) (.slice none 0 0)
      exact ⟨_, _, _, rfl, owQ_nil _ _ (Nat.le_trans HB_1.out.size hm5.size), HB_1.out.trans (hm5.toBelow (by omega) HB_1.out.size)⟩
  have K0 := Lib.hid (show cmB P Q G H hs m r = true from h0)
  have hbs := cm_bs h0
  have hgd := bs_good hbs
  have hmr : allIn [m, r] 0 (Q - 1) = true := by have h9 := h0; unfold cmB at h9; rw [Bool.and_eq_true] at h9; exact h9.2
  by_cases h1 : ¬ (cs.length = 2)
  · have B1 : ((cs.length : Int) != 2) = true := by simp; omega
    have E1 := Lib.hid (show opB P Q G H hs m r cs = false by simp [opB, h0, h1])
    rw [E1.out, op_off E1.out]
    clear h0 h1
    obtain ⟨gG0, gG1, gG2⟩ := G_0.out
    obtain ⟨rZ0, rZ1, rZ2, rfZ⟩ := Z_0.out
    have rfZ0 := rfZ 0
    have rfZ1 := rfZ 1
    have rfZ2 := rfZ 2
    obtain ⟨cV0, cV1⟩ := V_0.out
    go_enter Try.func52, Try.ntmps52
    go_wp2_with fail
    refine (HCM.out _ Y_0.out).mono ?_
    rw [K0.out]
    rintro e v1 ⟨rfl, hb⟩
    have HB_1 := Lib.hid (bt HB_0.out hb)
    have G_1 := Lib.hid (G_0.out.below hb)
    have V_1 := Lib.hid (V_0.out.below hb)
    have Z_1 := Lib.hid (Z_0.out.below hb)
    have Y_1 := Lib.hid (Y_0.out.below hb)
    have C_1 := Lib.hid (C_0.out.below hb)
    clear hb gG0 gG1 gG2 rZ0 rZ1 rZ2 rfZ rfZ0 rfZ1 rfZ2 cV0 cV1
    obtain ⟨gG0, gG1, gG2⟩ := G_1.out
    obtain ⟨rZ0, rZ1, rZ2, rfZ⟩ := Z_1.out
    have rfZ0 := rfZ 0
    have rfZ1 := rfZ 1
    have rfZ2 := rfZ 2
    obtain ⟨cV0, cV1⟩ := V_1.out
    go_wp2
    (try simp only [Exit.inBlock, Exit.then])
    refine bodyPost_ret (v := .tuple #[.agg #[.slice none 0 0, .slice none 0 0, .slice none 0 0], .bool false]) ?_ rfl ?_
    · rw [results_cell_tmp rfl]; go_simp
    · have hm5 := mid3 v1 (w.heap.size + 2) (.slice none 0 0) (.slice none 0 0) (.slice none 0 0)
      exact ⟨_, _, _, rfl, owQ_nil _ _ (Nat.le_trans HB_1.out.size hm5.size), HB_1.out.trans (hm5.toBelow (by omega) HB_1.out.size)⟩
  have h1 := Decidable.not_not.1 h1
  have B1 : ((cs.length : Int) != 2) = false := by simp [h1]
  cases h2 : exsB Q cs
  · have K2 := Lib.hid (show exsB Q cs = false from h2)
    have h9 : allIn cs 0 (Q - 1) = false := by rw [exs_al, h1] at h2; simpa using h2
    have E1 := Lib.hid (show opB P Q G H hs m r cs = false by simp [opB, h0, h1, h2, h9])
    rw [E1.out, op_off E1.out]
    clear h9
    clear h0 h1 h2
    obtain ⟨gG0, gG1, gG2⟩ := G_0.out
    obtain ⟨rZ0, rZ1, rZ2, rfZ⟩ := Z_0.out
    have rfZ0 := rfZ 0
    have rfZ1 := rfZ 1
    have rfZ2 := rfZ 2
    obtain ⟨cV0, cV1⟩ := V_0.out
    go_enter Try.func52, Try.ntmps52
    go_wp2_with fail
    refine (HCM.out _ Y_0.out).mono ?_
    rw [K0.out]
    rintro e v1 ⟨rfl, hb⟩
    have HB_1 := Lib.hid (bt HB_0.out hb)
    have G_1 := Lib.hid (G_0.out.below hb)
    have V_1 := Lib.hid (V_0.out.below hb)
    have Z_1 := Lib.hid (Z_0.out.below hb)
    have Y_1 := Lib.hid (Y_0.out.below hb)
    have C_1 := Lib.hid (C_0.out.below hb)
    clear hb gG0 gG1 gG2 rZ0 rZ1 rZ2 rfZ rfZ0 rfZ1 rfZ2 cV0 cV1
    obtain ⟨gG0, gG1, gG2⟩ := G_1.out
    obtain ⟨rZ0, rZ1, rZ2, rfZ⟩ := Z_1.out
    have rfZ0 := rfZ 0
    have rfZ1 := rfZ 1
    have rfZ2 := rfZ 2
    obtain ⟨cV0, cV1⟩ := V_1.out
    go_wp2_with fail
    refine (areExponents_any P Q G xa cs.length xc cs rfl (by omega) _ (C_1.out.ints).1).mono ?_
    rw [K2.out]
    rintro e v2 ⟨rfl, hb⟩
    have HB_2 := Lib.hid (bt HB_1.out hb)
    have G_2 := Lib.hid (G_1.out.below hb)
    have V_2 := Lib.hid (V_1.out.below hb)
    have Z_2 := Lib.hid (Z_1.out.below hb)
    have Y_2 := Lib.hid (Y_1.out.below hb)
    have C_2 := Lib.hid (C_1.out.below hb)
    clear hb gG0 gG1 gG2 rZ0 rZ1 rZ2 rfZ rfZ0 rfZ1 rfZ2 cV0 cV1
    obtain ⟨gG0, gG1, gG2⟩ := G_2.out
    obtain ⟨rZ0, rZ1, rZ2, rfZ⟩ := Z_2.out
    have rfZ0 := rfZ 0
    have rfZ1 := rfZ 1
    have rfZ2 := rfZ 2
    obtain ⟨cV0, cV1⟩ := V_2.out
    go_wp2
    (try simp only [Exit.inBlock, Exit.then])
    refine bodyPost_ret (v := .tuple #[.agg #[.slice none 0 0, .slice none 0 0, .slice none 0 0], .bool false]) ?_ rfl ?_
    · rw [results_cell_tmp rfl]; go_simp
    · have hm5 := mid3 v2 (w.heap.size + 2) (.slice none 0 0) (.slice none 0 0) (.slice none 0 0)
      exact ⟨_, _, _, rfl, owQ_nil _ _ (Nat.le_trans HB_2.out.size hm5.size), HB_2.out.trans (hm5.toBelow (by omega) HB_2.out.size)⟩
  have K2 := Lib.hid (show exsB Q cs = true from h2)
  have hc24 : allIn cs 0 (Q - 1) = true := by rw [exs_al, Bool.and_eq_true] at h2; exact h2.2
  have E1 := Lib.hid (show opB P Q G H hs m r cs = true by simp [opB, h0, h1, hc24])
  have E2 := Lib.hid (show opV P Q G H hs m r cs = opP P Q G H m r cs by simp [opV, E1.out])
  rw [E1.out, E2.out]
  have hc0 : cmW P G H m r = c0 := by rw [← hcv]; simp [cmV, h0]
  have hce : elB P Q c0 = true := by rw [← hc0]; exact cm_el hbs hmr
  have HOK := Lib.hid (op_ok hgd (bs_H hbs) hce)
  have HG := Lib.hid hgd
  have HEX := Lib.hid hc24
  have HMR := Lib.hid hmr
  have HCS2 := Lib.hid h1
  have HCS := Lib.hid (show cs.length = nCols (opS G H c0).parts from by rw [h1]; rfl)
  have HZI := Lib.hid (show allIn [0] 0 (Q - 1) = true from by have := (good_rng hgd).2.1; simp [allIn, inB]; omega)
  obtain ⟨p, hp⟩ : ∃ p, opP P Q G H m r cs = p := ⟨_, rfl⟩
  have HP := Lib.hid (show cplP P Q G opL (opS G H c0) [0] cs 0 [m, r] = p from by rw [← hp, ← hc0]; exact op_cpl E1.out)
  rw [hp]
  clear hcv h0 h1 h2 hbs hgd hmr hc24 hc0 hce hp
  obtain ⟨gG0, gG1, gG2⟩ := G_0.out
  obtain ⟨rZ0, rZ1, rZ2, rfZ⟩ := Z_0.out
  have rfZ0 := rfZ 0
  have rfZ1 := rfZ 1
  have rfZ2 := rfZ 2
  obtain ⟨cV0, cV1⟩ := V_0.out
  go_enter Try.func52, Try.ntmps52
  go_wp2_with fail
  refine (HCM.out _ Y_0.out).mono ?_
  rw [K0.out]
  rintro e v1 ⟨rfl, hb⟩
  have HB_1 := Lib.hid (bt HB_0.out hb)
  have G_1 := Lib.hid (G_0.out.below hb)
  have V_1 := Lib.hid (V_0.out.below hb)
  have Z_1 := Lib.hid (Z_0.out.below hb)
  have Y_1 := Lib.hid (Y_0.out.below hb)
  have C_1 := Lib.hid (C_0.out.below hb)
  clear hb gG0 gG1 gG2 rZ0 rZ1 rZ2 rfZ rfZ0 rfZ1 rfZ2 cV0 cV1
  obtain ⟨gG0, gG1, gG2⟩ := G_1.out
  obtain ⟨rZ0, rZ1, rZ2, rfZ⟩ := Z_1.out
  have rfZ0 := rfZ 0
  have rfZ1 := rfZ 1
  have rfZ2 := rfZ 2
  obtain ⟨cV0, cV1⟩ := V_1.out
  go_wp2_with fail
  refine (areExponents_any P Q G xa cs.length xc cs rfl (by omega) _ (C_1.out.ints).1).mono ?_
  rw [K2.out]
  rintro e v2 ⟨rfl, hb⟩
  have HB_2 := Lib.hid (bt HB_1.out hb)
  have G_2 := Lib.hid (G_1.out.below hb)
  have V_2 := Lib.hid (V_1.out.below hb)
  have Z_2 := Lib.hid (Z_1.out.below hb)
  have Y_2 := Lib.hid (Y_1.out.below hb)
  have C_2 := Lib.hid (C_1.out.below hb)
  clear hb gG0 gG1 gG2 rZ0 rZ1 rZ2 rfZ rfZ0 rfZ1 rfZ2 cV0 cV1
  obtain ⟨gG0, gG1, gG2⟩ := G_2.out
  obtain ⟨rZ0, rZ1, rZ2, rfZ⟩ := Z_2.out
  have rfZ0 := rfZ 0
  have rfZ1 := rfZ 1
  have rfZ2 := rfZ 2
  obtain ⟨cV0, cV1⟩ := V_2.out
  have hsz2 := HB_2.out.size
  have hnl := (C_2.out.ints).2.2.1
  have hlit := ba v2 (.cells #[.int .i64 0] 3)
  have hci := ((C_2.out.below hlit).ints).1
  go_wp2_with fail
  refine (clone_any _ _ _ cs rfl (by omega) hnl _ hci).mono ?_
  rintro e v3 ⟨rc, rfl, ho, hb0⟩
  obtain ⟨gr, cr, rfl⟩ := ho.some (by have := HCS2.out; omega)
  have hH := own_lit v2 [0] (by simp) 3
  have hs2 : (v2.alloc (.cells #[.int .i64 0] 3)).heap.size = v2.heap.size + 1 := by simp
  have hH2 : OwI v2.heap.size (v2.heap.size + 1) (v2.alloc (.cells #[.int .i64 0] 3)) (.slice (some ⟨v2.heap.size, 0, none⟩) ([0] : List Int).length 1) [0] := by rw [← hs2]; exact OwR.mk hH (by simp)
  rw [hs2] at ho
  have hH3 := hH2.below hb0
  have hal := ba v3 (.cells #[.slice none 0 0, .slice (some ⟨v2.heap.size, 0, none⟩) 1 1, .slice (some ⟨gr, 0, none⟩) cs.length cr] 36)
  have hb := bt (bt hlit hb0) hal
  have hsv : (v3.alloc (.cells #[.slice none 0 0, .slice (some ⟨v2.heap.size, 0, none⟩) 1 1, .slice (some ⟨gr, 0, none⟩) cs.length cr] 36)).heap.size = v3.heap.size + 1 := by simp
  have hD := b3_new v3 (.slice none 0 0) (.slice (some ⟨v2.heap.size, 0, none⟩) 1 1) (.slice (some ⟨gr, 0, none⟩) cs.length cr) 36
  have h_3 := hH3.below hal
  have r_3 := ho.below hal
  have HD9 := Lib.hid (show gr < v3.heap.size ∧ v2.heap.size < v3.heap.size from by have := ho.gblk; have := hb0.size; omega)
  obtain ⟨Wd, hV⟩ : ∃ V, v3.alloc (.cells #[.slice none 0 0, .slice (some ⟨v2.heap.size, 0, none⟩) 1 1, .slice (some ⟨gr, 0, none⟩) cs.length cr] 36) = V := ⟨_, rfl⟩
  rw [hV] at hb hD h_3 r_3 hsv
  have D_5 := Lib.hid hD
  have H_5 := Lib.hid h_3
  have R_5 := Lib.hid r_3
  have HSB := Lib.hid (show w.heap.size + 3 ≤ v2.heap.size ∧ v2.heap.size < gr + 1 ∧ gr ≠ w.heap.size from by have := ho.gblk; have := Z_2.out.lt; omega)
  have HLZ := Lib.hid (show w.heap.size + 2 < v2.heap.size from Z_2.out.lt)
  clear hlit hci hH hs2 hH2 hH3 ho hb0 hal hnl hD h_3 r_3
  have HB_5 := Lib.hid (bt HB_2.out hb)
  have G_5 := Lib.hid (G_2.out.below hb)
  have V_5 := Lib.hid (V_2.out.below hb)
  have Z_5 := Lib.hid (Z_2.out.below hb)
  have Y_5 := Lib.hid (Y_2.out.below hb)
  clear hb gG0 gG1 gG2 cV0 cV1 rZ0 rZ1 rZ2 rfZ rfZ0 rfZ1 rfZ2
  go_wp2_with fail
  clear hV
  have hbd : Below Wd.heap.size Wd Wd.drew := (Below.refl _ Wd).drew
  have HB_s := Lib.hid (bt HB_5.out hbd)
  have G_s := Lib.hid (G_5.out.below hbd)
  have V_s := Lib.hid (V_5.out.below hbd)
  have Z_s := Lib.hid (Z_5.out.below hbd)
  have Y_s := Lib.hid (Y_5.out.below hbd)
  have D_s := Lib.hid (D_5.out.below hbd)
  have H_s := Lib.hid (H_5.out.below hbd)
  have R_s := Lib.hid (R_5.out.below hbd)
  clear hbd
  refine wp_region_held_drew (S := (fun w' => (w'.cell? ⟨w.heap.size, 0, none⟩ = some (.int .i64 P) ∧ w'.cell? ⟨w.heap.size, 1, none⟩ = some (.int .i64 Q) ∧ w'.cell? ⟨w.heap.size, 2, none⟩ = some (.int .i64 G)) ∧ (w'.cell? ⟨w.heap.size + 1, 0, none⟩ = some (.int .i64 H) ∧ w'.cell? ⟨w.heap.size + 1, 1, none⟩ = some (.slice ya hs.length yc)) ∧ (w'.cell? ⟨v3.heap.size, 0, none⟩ = some (.slice none 0 0) ∧ w'.cell? ⟨v3.heap.size, 1, none⟩ = some (.slice (some ⟨v2.heap.size, 0, none⟩) 1 1) ∧ w'.cell? ⟨v3.heap.size, 2, none⟩ = some (.slice (some ⟨gr, 0, none⟩) cs.length cr)))) (by kernel_rfl) (show _ from ⟨⟨G_5.out.1, G_5.out.2.1, G_5.out.2.2⟩, ⟨V_5.out.1, V_5.out.2⟩, D_5.out.1, D_5.out.2.1, D_5.out.2.2.1⟩) (fun hHeld => ?_)
  generalize hW0 : Wd.drew = Ws at *
  clear hW0
  refine wpAnyH_take (i := 0) (v := ?_) rfl (by kernel_rfl) (by kernel_rfl) (by kernel_rfl) (fun _ _ _ h => h) (Or.inl ⟨by kernel_rfl, ?_⟩) (by assumption) ?_
  rotate_left 1
  · intro w9 hSw
    try dsimp only at hSw
    go_simp
    try with_reducible rfl
  try simp only [Act.put, List.getElem_toArray, List.getElem_cons_succ, List.getElem_cons_zero, List.setIfInBounds_toArray, List.set_cons_zero, List.set_cons_succ]
  refine wpAnyH_take (i := 1) (v := ?_) rfl (by kernel_rfl) (by kernel_rfl) (by kernel_rfl) (fun _ _ _ h => h) (Or.inl ⟨by kernel_rfl, ?_⟩) (by assumption) ?_
  rotate_left 1
  · intro w9 hSw
    try dsimp only at hSw
    go_simp
    try with_reducible rfl
  try simp only [Act.put, List.getElem_toArray, List.getElem_cons_succ, List.getElem_cons_zero, List.setIfInBounds_toArray, List.set_cons_zero, List.set_cons_succ]
  refine wpAnyH_take (i := 2) (v := ?_) rfl (by kernel_rfl) (by kernel_rfl) (by kernel_rfl) (fun _ _ _ h => h) (Or.inl ⟨by kernel_rfl, ?_⟩) (by assumption) ?_
  rotate_left 1
  · intro w9 hSw
    try dsimp only at hSw
    go_simp
    try with_reducible rfl
  try simp only [Act.put, List.getElem_toArray, List.getElem_cons_succ, List.getElem_cons_zero, List.setIfInBounds_toArray, List.set_cons_zero, List.set_cons_succ]
  refine wpAnyH_take (i := 3) (v := ?_) rfl (by kernel_rfl) (by kernel_rfl) (by kernel_rfl) (fun _ _ _ h => h) (Or.inl ⟨by kernel_rfl, ?_⟩) (by assumption) ?_
  rotate_left 1
  · intro w9 hSw
    try dsimp only at hSw
    go_simp
    try with_reducible rfl
  try simp only [Act.put, List.getElem_toArray, List.getElem_cons_succ, List.getElem_cons_zero, List.setIfInBounds_toArray, List.set_cons_zero, List.set_cons_succ]
  refine wpAnyH_take (i := 6) (v := ?_) rfl (by kernel_rfl) (by kernel_rfl) (by kernel_rfl) (fun _ _ _ h => h) (Or.inl ⟨by kernel_rfl, ?_⟩) (by assumption) ?_
  rotate_left 1
  · intro w9 hSw
    try dsimp only at hSw
    go_simp
    try with_reducible rfl
  try simp only [Act.put, List.getElem_toArray, List.getElem_cons_succ, List.getElem_cons_zero, List.setIfInBounds_toArray, List.set_cons_zero, List.set_cons_succ]
  refine wpAnyH_take (i := 7) (v := ?_) rfl (by kernel_rfl) (by kernel_rfl) (by kernel_rfl) (fun _ _ _ h => h) (Or.inl ⟨by kernel_rfl, ?_⟩) (by assumption) ?_
  rotate_left 1
  · intro w9 hSw
    try dsimp only at hSw
    go_simp
    try with_reducible rfl
  try simp only [Act.put, List.getElem_toArray, List.getElem_cons_succ, List.getElem_cons_zero, List.setIfInBounds_toArray, List.set_cons_zero, List.set_cons_succ]
  refine wpAnyH_take (i := 8) (v := ?_) rfl (by kernel_rfl) (by kernel_rfl) (by kernel_rfl) (fun _ _ _ h => h) (Or.inl ⟨by kernel_rfl, ?_⟩) (by assumption) ?_
  rotate_left 1
  · intro w9 hSw
    try dsimp only at hSw
    go_simp
    try with_reducible rfl
  try simp only [Act.put, List.getElem_toArray, List.getElem_cons_succ, List.getElem_cons_zero, List.setIfInBounds_toArray, List.set_cons_zero, List.set_cons_succ]
  refine wpAnyH_ready (rs := [4, 9]) (by kernel_rfl) (by simp) ?_
  refine AllReadyH.cons rfl (fun K hK => ?_) (AllReadyH.cons rfl (fun K hK => ?_) (AllReadyH.nil))
  · go_simp
    go_at_call 93
    refine (openingOf_any P Q G H c0 Y_s.out).mono ?_
    rintro e' Wse ⟨x1, x2, rfl, hk, hb⟩
    have HB_se := Lib.hid (bt HB_s.out hb)
    have G_se := Lib.hid (G_s.out.below hb)
    have V_se := Lib.hid (V_s.out.below hb)
    have Z_se := Lib.hid (Z_s.out.below hb)
    have Y_se := Lib.hid (Y_s.out.below hb)
    have D_se := Lib.hid (D_s.out.below hb)
    have H_se := Lib.hid (H_s.out.below hb)
    have R_se := Lib.hid (R_s.out.below hb)
    have KC_se := Lib.hid hk
    have LC := Lib.hid (show v2.heap.size + 1 ≤ Ws.heap.size ∧ gr + 1 ≤ Ws.heap.size from by have h1 := R_s.out.gblk; have h2 := R_s.out.2.2.1; have h3 := H_s.out.2.2.1; omega)
    clear hk
    clear hb
    go_wp2_with fail
    refine hK.out _ _ (show _ from ⟨⟨G_se.out.1, G_se.out.2.1, G_se.out.2.2⟩, ⟨V_se.out.1, V_se.out.2⟩, D_se.out.1, D_se.out.2.1, D_se.out.2.2.1⟩) (fun hHeld => ?_)
    clear hK K
    try simp only [Act.put, List.getElem_toArray, List.getElem_cons_succ, List.getElem_cons_zero, List.setIfInBounds_toArray, List.set_cons_zero, List.set_cons_succ]
    refine wpAnyH_take (i := 5) (v := ?_) rfl (by kernel_rfl) (by kernel_rfl) (by kernel_rfl) (fun _ _ _ h => h) (Or.inl ⟨by kernel_rfl, ?_⟩) (by assumption) ?_
    rotate_left 1
    · intro w9 hSw
      try dsimp only at hSw
      go_simp
      try with_reducible rfl
    try simp only [Act.put, List.getElem_toArray, List.getElem_cons_succ, List.getElem_cons_zero, List.setIfInBounds_toArray, List.set_cons_zero, List.set_cons_succ]
    refine wpAnyH_ready (rs := [9]) (by kernel_rfl) (by simp) ?_
    refine AllReadyH.cons rfl (fun K hK => ?_) (AllReadyH.nil)
    go_simp
    have hb := ba Wse (.cells #[.int .i64 m, .int .i64 r] 3)
    have HB_sej := Lib.hid (bt HB_se.out hb)
    have G_sej := Lib.hid (G_se.out.below hb)
    have V_sej := Lib.hid (V_se.out.below hb)
    have Z_sej := Lib.hid (Z_se.out.below hb)
    have Y_sej := Lib.hid (Y_se.out.below hb)
    have D_sej := Lib.hid (D_se.out.below hb)
    have H_sej := Lib.hid (H_se.out.below hb)
    have R_sej := Lib.hid (R_se.out.below hb)
    have KC_sej := Lib.hid (KC_se.out.below hb)
    have KX_sej := Lib.hid (show KP Wse.heap.size (Wse.alloc (.cells #[.int .i64 m, .int .i64 r] 3)).heap.size (fun w0 => IsInts w0 (some ⟨Wse.heap.size, 0, none⟩) [m, r]) (Wse.alloc (.cells #[.int .i64 m, .int .i64 r] 3)) from kp_ints (ints_spot Wse _ rfl [m, r] 3) (Nat.le_refl _) (by rintro a ⟨⟩; simp))
    have LX := Lib.hid (show v2.heap.size + 1 ≤ Wse.heap.size ∧ gr + 1 ≤ Wse.heap.size from by have h1 := R_se.out.gblk; have h2 := R_se.out.2.2.1; have h3 := H_se.out.2.2.1; omega)
    clear hb
    refine hK.out _ _ (show _ from ⟨⟨G_sej.out.1, G_sej.out.2.1, G_sej.out.2.2⟩, ⟨V_sej.out.1, V_sej.out.2⟩, D_sej.out.1, D_sej.out.2.1, D_sej.out.2.2.1⟩) (fun hHeld => ?_)
    clear hK K
    try simp only [Act.put, List.getElem_toArray, List.getElem_cons_succ, List.getElem_cons_zero, List.setIfInBounds_toArray, List.set_cons_zero, List.set_cons_succ]
    generalize hW9 : Wse.alloc (.cells #[.int .i64 m, .int .i64 r] 3) = Wsej at *
    clear hW9
    refine wpAnyH_ready (rs := [10]) (by kernel_rfl) (by simp) ?_
    refine AllReadyH.cons rfl (fun K hK => ?_) AllReadyH.nil
    go_simp
    go_at_call 78
    have hlc := LC.out
    have hlx := LX.out
    have hsz := HB_sej.out.size
    have hg0 := R_sej.out.gblk
    have hbz := HLZ.out
    refine (completeClm_any P Q G HG.out opL (by decide) (base := v2.heap.size) (M := v2.heap.size + 1) (dh := [0]) (dr := cs) (xs := [m, r]) HOK.out KC_sej.out ⟨.inr hlc.1, .inr hlc.2⟩ H_sej.out (R_sej.out.wide (Nat.le_refl _) R_sej.out.2.2.1 (Nat.le_refl _)) KX_sej.out ⟨.inr hlx.1, .inr hlx.2⟩ (by rintro _ a ⟨⟩; simp; omega) rfl HCS.out HZI.out HEX.out HMR.out (by rw [HCS2.out]; simp) (by rw [HCS2.out]; decide)).mono ?_
    rw [HP.out]
    rintro e' v9 ⟨⟨qa, qb, qc, rfl, hq, hb⟩, htw⟩
    obtain ⟨a1, c1, a2, c2, a3, c3, rfl, rfl, rfl⟩ := hq.shape
    have hgs := G_sej.out
    have hvs := V_sej.out
    have hds := D_sej.out
    have hd9 := HD9.out
    have hsb := HSB.out
    have G_z := Lib.hid (show GR v9 w.heap.size P Q G from ⟨htw.cell hgs.1 (by omega) (by omega), htw.cell hgs.2.1 (by omega) (by omega), htw.cell hgs.2.2 (by omega) (by omega)⟩)
    have V_z := Lib.hid (show D2 v9 (w.heap.size + 1) (.int .i64 H) (.slice ya hs.length yc) from ⟨htw.cell hvs.1 (by omega) (by omega), htw.cell hvs.2 (by omega) (by omega)⟩)
    have D_z := Lib.hid (show v9.cell? ⟨v3.heap.size, 0, none⟩ = some (.slice none 0 0) ∧ v9.cell? ⟨v3.heap.size, 1, none⟩ = some (.slice (some ⟨v2.heap.size, 0, none⟩) 1 1) ∧ v9.cell? ⟨v3.heap.size, 2, none⟩ = some (.slice (some ⟨gr, 0, none⟩) cs.length cr) ∧ True from ⟨htw.cell hds.1 (by omega) (by omega), htw.cell hds.2.1 (by omega) (by omega), htw.cell hds.2.2.1 (by omega) (by omega), trivial⟩)
    have Z_z := Lib.hid (Z_sej.out.belowB hb (by omega))
    have HB_z := Lib.hid (HB_sej.out.trans (hb.mono (by omega)))
    have AQ := Lib.hid hq
    clear hq htw hb hgs hvs hds
    go_wp2_with fail
    refine hK.out _ _ (show _ from ⟨⟨G_z.out.1, G_z.out.2.1, G_z.out.2.2⟩, ⟨V_z.out.1, V_z.out.2⟩, D_z.out.1, D_z.out.2.1, D_z.out.2.2.1⟩) (fun hHeld => ?_)
    clear hK K
    try simp only [Act.put, List.getElem_toArray, List.getElem_cons_succ, List.getElem_cons_zero, List.setIfInBounds_toArray, List.set_cons_zero, List.set_cons_succ]
    refine wpAnyH_take (i := 11) (v := ?_) rfl (by kernel_rfl) (by kernel_rfl) (by kernel_rfl) (fun _ _ _ h => h) (Or.inl ⟨by kernel_rfl, ?_⟩) (by assumption) ?_
    rotate_left 1
    · intro w9 hSw
      try dsimp only at hSw
      go_simp
      try with_reducible rfl
    try simp only [Act.put, List.getElem_toArray, List.getElem_cons_succ, List.getElem_cons_zero, List.setIfInBounds_toArray, List.set_cons_zero, List.set_cons_succ]
    refine wpAnyH_take (i := 12) (v := ?_) rfl (by kernel_rfl) (by kernel_rfl) (by kernel_rfl) (fun _ _ _ h => h) (Or.inl ⟨by kernel_rfl, ?_⟩) (by assumption) ?_
    rotate_left 1
    · intro w9 hSw
      try dsimp only at hSw
      go_simp
      try with_reducible rfl
    try simp only [Act.put, List.getElem_toArray, List.getElem_cons_succ, List.getElem_cons_zero, List.setIfInBounds_toArray, List.set_cons_zero, List.set_cons_succ]
    have hm5 := mid3 v9 (w.heap.size + 2) (.slice a1 p.c.length c1) (.slice a2 p.h.length c2) (.slice a3 p.r.length c3)
    have hhs := hm5.size
    have G_y := Lib.hid (G_z.out.mid hm5 (.inl (by omega)))
    have V_y := Lib.hid (show D2 _ (w.heap.size + 1) (.int .i64 H) (.slice ya hs.length yc) from mid_d2 V_z.out hm5 (.inl (by omega)))
    have D_y := Lib.hid (show _ ∧ _ ∧ _ ∧ True from ⟨mid_c hm5 D_z.out.1 (.inr (by omega)), mid_c hm5 D_z.out.2.1 (.inr (by omega)), mid_c hm5 D_z.out.2.2.1 (.inr (by omega)), trivial⟩)
    have AY := Lib.hid (AQ.out.mid hm5 (.inr (by omega)))
    have HB_y := Lib.hid (HB_z.out.trans (hm5.toBelow (by omega) HB_z.out.size))
    clear hm5
    refine wpAnyH_ready (rs := [13]) (by kernel_rfl) (by simp) ?_
    refine AllReadyH.cons rfl (fun K hK => ?_) AllReadyH.nil
    obtain ⟨y0, y1, y2, yf⟩ := Z_z.out
    have yf0 := yf 0
    have yf1 := yf 1
    have yf2 := yf 2
    clear yf
    go_simp
    refine hK.out _ _ (show _ from ⟨⟨G_y.out.1, G_y.out.2.1, G_y.out.2.2⟩, ⟨V_y.out.1, V_y.out.2⟩, D_y.out.1, D_y.out.2.1, D_y.out.2.2.1⟩) (fun hHeld => ?_)
    clear hK K
    try simp only [Act.put, List.getElem_toArray, List.getElem_cons_succ, List.getElem_cons_zero, List.setIfInBounds_toArray, List.set_cons_zero, List.set_cons_succ]
    refine wpAnyH_take (i := 14) (v := ?_) rfl (by kernel_rfl) (by kernel_rfl) (by kernel_rfl) (fun _ _ _ h => h) (Or.inl ⟨by kernel_rfl, ?_⟩) (by assumption) ?_
    rotate_left 1
    · intro w9 hSw
      try dsimp only at hSw
      go_simp
      try with_reducible rfl
    try simp only [Act.put, List.getElem_toArray, List.getElem_cons_succ, List.getElem_cons_zero, List.setIfInBounds_toArray, List.set_cons_zero, List.set_cons_succ]
    refine wpAnyH_done (by kernel_rfl) ?_ _
    go_wp2
    (try simp only [Exit.inBlock, Exit.then])
    refine bodyPost_ret (v := .tuple #[.agg #[.slice a1 p.c.length c1, .slice a2 p.h.length c2, .slice a3 p.r.length c3], .bool true]) ?_ rfl ?_
    · rw [results_cell_tmp rfl]; go_simp
    · exact ⟨_, _, _, rfl, AY.out.wide (by omega) hhs (Nat.le_refl _), HB_y.out⟩
  · go_simp
    have hb := ba Ws (.cells #[.int .i64 m, .int .i64 r] 3)
    have HB_sj := Lib.hid (bt HB_s.out hb)
    have G_sj := Lib.hid (G_s.out.below hb)
    have V_sj := Lib.hid (V_s.out.below hb)
    have Z_sj := Lib.hid (Z_s.out.below hb)
    have Y_sj := Lib.hid (Y_s.out.below hb)
    have D_sj := Lib.hid (D_s.out.below hb)
    have H_sj := Lib.hid (H_s.out.below hb)
    have R_sj := Lib.hid (R_s.out.below hb)
    have KX_sj := Lib.hid (show KP Ws.heap.size (Ws.alloc (.cells #[.int .i64 m, .int .i64 r] 3)).heap.size (fun w0 => IsInts w0 (some ⟨Ws.heap.size, 0, none⟩) [m, r]) (Ws.alloc (.cells #[.int .i64 m, .int .i64 r] 3)) from kp_ints (ints_spot Ws _ rfl [m, r] 3) (Nat.le_refl _) (by rintro a ⟨⟩; simp))
    have LX := Lib.hid (show v2.heap.size + 1 ≤ Ws.heap.size ∧ gr + 1 ≤ Ws.heap.size from by have h1 := R_s.out.gblk; have h2 := R_s.out.2.2.1; have h3 := H_s.out.2.2.1; omega)
    clear hb
    refine hK.out _ _ (show _ from ⟨⟨G_sj.out.1, G_sj.out.2.1, G_sj.out.2.2⟩, ⟨V_sj.out.1, V_sj.out.2⟩, D_sj.out.1, D_sj.out.2.1, D_sj.out.2.2.1⟩) (fun hHeld => ?_)
    clear hK K
    try simp only [Act.put, List.getElem_toArray, List.getElem_cons_succ, List.getElem_cons_zero, List.setIfInBounds_toArray, List.set_cons_zero, List.set_cons_succ]
    generalize hW9 : Ws.alloc (.cells #[.int .i64 m, .int .i64 r] 3) = Wsj at *
    clear hW9
    refine wpAnyH_ready (rs := [4]) (by kernel_rfl) (by simp) ?_
    refine AllReadyH.cons rfl (fun K hK => ?_) (AllReadyH.nil)
    go_simp
    go_at_call 93
    refine (openingOf_any P Q G H c0 Y_sj.out).mono ?_
    rintro e' Wsje ⟨x1, x2, rfl, hk, hb⟩
    have HB_sje := Lib.hid (bt HB_sj.out hb)
    have G_sje := Lib.hid (G_sj.out.below hb)
    have V_sje := Lib.hid (V_sj.out.below hb)
    have Z_sje := Lib.hid (Z_sj.out.below hb)
    have Y_sje := Lib.hid (Y_sj.out.below hb)
    have D_sje := Lib.hid (D_sj.out.below hb)
    have H_sje := Lib.hid (H_sj.out.below hb)
    have R_sje := Lib.hid (R_sj.out.below hb)
    have KX_sje := Lib.hid (KX_sj.out.below hb)
    have KC_sje := Lib.hid hk
    have LC := Lib.hid (show v2.heap.size + 1 ≤ Wsj.heap.size ∧ gr + 1 ≤ Wsj.heap.size from by have h1 := R_sj.out.gblk; have h2 := R_sj.out.2.2.1; have h3 := H_sj.out.2.2.1; omega)
    clear hk
    clear hb
    go_wp2_with fail
    refine hK.out _ _ (show _ from ⟨⟨G_sje.out.1, G_sje.out.2.1, G_sje.out.2.2⟩, ⟨V_sje.out.1, V_sje.out.2⟩, D_sje.out.1, D_sje.out.2.1, D_sje.out.2.2.1⟩) (fun hHeld => ?_)
    clear hK K
    try simp only [Act.put, List.getElem_toArray, List.getElem_cons_succ, List.getElem_cons_zero, List.setIfInBounds_toArray, List.set_cons_zero, List.set_cons_succ]
    refine wpAnyH_take (i := 5) (v := ?_) rfl (by kernel_rfl) (by kernel_rfl) (by kernel_rfl) (fun _ _ _ h => h) (Or.inl ⟨by kernel_rfl, ?_⟩) (by assumption) ?_
    rotate_left 1
    · intro w9 hSw
      try dsimp only at hSw
      go_simp
      try with_reducible rfl
    try simp only [Act.put, List.getElem_toArray, List.getElem_cons_succ, List.getElem_cons_zero, List.setIfInBounds_toArray, List.set_cons_zero, List.set_cons_succ]
    refine wpAnyH_ready (rs := [10]) (by kernel_rfl) (by simp) ?_
    refine AllReadyH.cons rfl (fun K hK => ?_) AllReadyH.nil
    go_simp
    go_at_call 78
    have hlc := LC.out
    have hlx := LX.out
    have hsz := HB_sje.out.size
    have hg0 := R_sje.out.gblk
    have hbz := HLZ.out
    refine (completeClm_any P Q G HG.out opL (by decide) (base := v2.heap.size) (M := v2.heap.size + 1) (dh := [0]) (dr := cs) (xs := [m, r]) HOK.out KC_sje.out ⟨.inr hlc.1, .inr hlc.2⟩ H_sje.out (R_sje.out.wide (Nat.le_refl _) R_sje.out.2.2.1 (Nat.le_refl _)) KX_sje.out ⟨.inr hlx.1, .inr hlx.2⟩ (by rintro _ a ⟨⟩; simp; omega) rfl HCS.out HZI.out HEX.out HMR.out (by rw [HCS2.out]; simp) (by rw [HCS2.out]; decide)).mono ?_
    rw [HP.out]
    rintro e' v9 ⟨⟨qa, qb, qc, rfl, hq, hb⟩, htw⟩
    obtain ⟨a1, c1, a2, c2, a3, c3, rfl, rfl, rfl⟩ := hq.shape
    have hgs := G_sje.out
    have hvs := V_sje.out
    have hds := D_sje.out
    have hd9 := HD9.out
    have hsb := HSB.out
    have G_z := Lib.hid (show GR v9 w.heap.size P Q G from ⟨htw.cell hgs.1 (by omega) (by omega), htw.cell hgs.2.1 (by omega) (by omega), htw.cell hgs.2.2 (by omega) (by omega)⟩)
    have V_z := Lib.hid (show D2 v9 (w.heap.size + 1) (.int .i64 H) (.slice ya hs.length yc) from ⟨htw.cell hvs.1 (by omega) (by omega), htw.cell hvs.2 (by omega) (by omega)⟩)
    have D_z := Lib.hid (show v9.cell? ⟨v3.heap.size, 0, none⟩ = some (.slice none 0 0) ∧ v9.cell? ⟨v3.heap.size, 1, none⟩ = some (.slice (some ⟨v2.heap.size, 0, none⟩) 1 1) ∧ v9.cell? ⟨v3.heap.size, 2, none⟩ = some (.slice (some ⟨gr, 0, none⟩) cs.length cr) ∧ True from ⟨htw.cell hds.1 (by omega) (by omega), htw.cell hds.2.1 (by omega) (by omega), htw.cell hds.2.2.1 (by omega) (by omega), trivial⟩)
    have Z_z := Lib.hid (Z_sje.out.belowB hb (by omega))
    have HB_z := Lib.hid (HB_sje.out.trans (hb.mono (by omega)))
    have AQ := Lib.hid hq
    clear hq htw hb hgs hvs hds
    go_wp2_with fail
    refine hK.out _ _ (show _ from ⟨⟨G_z.out.1, G_z.out.2.1, G_z.out.2.2⟩, ⟨V_z.out.1, V_z.out.2⟩, D_z.out.1, D_z.out.2.1, D_z.out.2.2.1⟩) (fun hHeld => ?_)
    clear hK K
    try simp only [Act.put, List.getElem_toArray, List.getElem_cons_succ, List.getElem_cons_zero, List.setIfInBounds_toArray, List.set_cons_zero, List.set_cons_succ]
    refine wpAnyH_take (i := 11) (v := ?_) rfl (by kernel_rfl) (by kernel_rfl) (by kernel_rfl) (fun _ _ _ h => h) (Or.inl ⟨by kernel_rfl, ?_⟩) (by assumption) ?_
    rotate_left 1
    · intro w9 hSw
      try dsimp only at hSw
      go_simp
      try with_reducible rfl
    try simp only [Act.put, List.getElem_toArray, List.getElem_cons_succ, List.getElem_cons_zero, List.setIfInBounds_toArray, List.set_cons_zero, List.set_cons_succ]
    refine wpAnyH_take (i := 12) (v := ?_) rfl (by kernel_rfl) (by kernel_rfl) (by kernel_rfl) (fun _ _ _ h => h) (Or.inl ⟨by kernel_rfl, ?_⟩) (by assumption) ?_
    rotate_left 1
    · intro w9 hSw
      try dsimp only at hSw
      go_simp
      try with_reducible rfl
    try simp only [Act.put, List.getElem_toArray, List.getElem_cons_succ, List.getElem_cons_zero, List.setIfInBounds_toArray, List.set_cons_zero, List.set_cons_succ]
    have hm5 := mid3 v9 (w.heap.size + 2) (.slice a1 p.c.length c1) (.slice a2 p.h.length c2) (.slice a3 p.r.length c3)
    have hhs := hm5.size
    have G_y := Lib.hid (G_z.out.mid hm5 (.inl (by omega)))
    have V_y := Lib.hid (show D2 _ (w.heap.size + 1) (.int .i64 H) (.slice ya hs.length yc) from mid_d2 V_z.out hm5 (.inl (by omega)))
    have D_y := Lib.hid (show _ ∧ _ ∧ _ ∧ True from ⟨mid_c hm5 D_z.out.1 (.inr (by omega)), mid_c hm5 D_z.out.2.1 (.inr (by omega)), mid_c hm5 D_z.out.2.2.1 (.inr (by omega)), trivial⟩)
    have AY := Lib.hid (AQ.out.mid hm5 (.inr (by omega)))
    have HB_y := Lib.hid (HB_z.out.trans (hm5.toBelow (by omega) HB_z.out.size))
    clear hm5
    refine wpAnyH_ready (rs := [13]) (by kernel_rfl) (by simp) ?_
    refine AllReadyH.cons rfl (fun K hK => ?_) AllReadyH.nil
    obtain ⟨y0, y1, y2, yf⟩ := Z_z.out
    have yf0 := yf 0
    have yf1 := yf 1
    have yf2 := yf 2
    clear yf
    go_simp
    refine hK.out _ _ (show _ from ⟨⟨G_y.out.1, G_y.out.2.1, G_y.out.2.2⟩, ⟨V_y.out.1, V_y.out.2⟩, D_y.out.1, D_y.out.2.1, D_y.out.2.2.1⟩) (fun hHeld => ?_)
    clear hK K
    try simp only [Act.put, List.getElem_toArray, List.getElem_cons_succ, List.getElem_cons_zero, List.setIfInBounds_toArray, List.set_cons_zero, List.set_cons_succ]
    refine wpAnyH_take (i := 14) (v := ?_) rfl (by kernel_rfl) (by kernel_rfl) (by kernel_rfl) (fun _ _ _ h => h) (Or.inl ⟨by kernel_rfl, ?_⟩) (by assumption) ?_
    rotate_left 1
    · intro w9 hSw
      try dsimp only at hSw
      go_simp
      try with_reducible rfl
    try simp only [Act.put, List.getElem_toArray, List.getElem_cons_succ, List.getElem_cons_zero, List.setIfInBounds_toArray, List.set_cons_zero, List.set_cons_succ]
    refine wpAnyH_done (by kernel_rfl) ?_ _
    go_wp2
    (try simp only [Exit.inBlock, Exit.then])
    refine bodyPost_ret (v := .tuple #[.agg #[.slice a1 p.c.length c1, .slice a2 p.h.length c2, .slice a3 p.r.length c3], .bool true]) ?_ rfl ?_
    · rw [results_cell_tmp rfl]; go_simp
    · exact ⟨_, _, _, rfl, AY.out.wide (by omega) hhs (Nat.le_refl _), HB_y.out⟩

end Go.Proofs.Ytlgdcfficemebaa

