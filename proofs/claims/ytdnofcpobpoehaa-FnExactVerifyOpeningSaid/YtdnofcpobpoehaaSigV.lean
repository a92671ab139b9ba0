/- Sigma proofs, the program: the verifier. -/
import Derived.Test.YtdnofcpobpoehaaSigA
namespace Go.Proofs.Ytdnofcpobpoehaa
open Go.RowKit
set_option linter.unusedVariables false
set_option linter.unusedSimpArgs false

/-! ### What a valid statement gives -/
theorem all_app {P Q : Int} {a b : List Int} (h : allEl P Q a = true) (k : allEl P Q b = true) : allEl P Q (a ++ b) = true := by
  unfold allEl at *
  rw [List.all_append, h, k]; rfl
theorem ch_ok {P Q G : Int} {s : ByteArray} {zs : List Int} (hg : goodB P Q G = true) (hs : s.size ≤ 40) (hl : zs.length ≤ 200) (he : allEl P Q zs = true) : chB P Q G s zs 3 = true := by
  refine chB_true.2 ⟨hg, labB_true.2 ⟨by omega, by omega⟩, digsB_true.2 fun z hz => ?_⟩
  have := els_range he z hz
  have := (good_mo hg).1
  omega
theorem ch_ok2 {P Q G : Int} {s : ByteArray} {a b : List Int} (hg : goodB P Q G = true) (hs : s.size ≤ 40) (hl : (a ++ b).length ≤ 200) (ha : smB a = true) (hb : allEl P Q b = true) : chB P Q G s (a ++ b) 3 = true := by
  refine chB_true.2 ⟨hg, labB_true.2 ⟨by omega, by omega⟩, digsB_true.2 fun z hz => ?_⟩
  rcases List.mem_append.1 hz with h | h
  · have := smB_true.1 ha z h
    omega
  · have := els_range hb z h
    have := (good_mo hg).1
    omega
theorem flat_len {rows : List (List Int)} {m : Nat} (h : ∀ r ∈ rows, r.length = m) : nS rows = rows.length * m := by
  induction rows with
  | nil => simp [nS]
  | cons a t ih =>
    rw [nS_cons, h a (by simp), ih (fun r hr => h r (by simp [hr])), List.length_cons, Nat.succ_mul, Nat.add_comm]
theorem flat_el {P Q : Int} {rows : List (List Int)} (h : ∀ r ∈ rows, allEl P Q r = true) : allEl P Q rows.flatten = true := by
  unfold allEl at *
  rw [List.all_eq_true]
  intro z hz
  obtain ⟨r, hr, hz⟩ := List.mem_flatten.1 hz
  have := h r hr
  rw [List.all_eq_true] at this
  exact this z hz
theorem lin_facts {P Q : Int} {rows : List (List Int)} {im : List Int} (h : (St.lin rows im).ok P Q = true) :
    (rows.length ≤ 8 ∧ nS rows ≤ 64 ∧ 0 < nS rows ∧ im.length ≤ 8) ∧ (St.lin rows im).els.length ≤ 72 ∧ allEl P Q (St.lin rows im).els = true ∧ Sound P Q (St.lin rows im).parts ∧ 1 ≤ (St.lin rows im).parts.length := by
  rw [lin_ok] at h
  simp only [Bool.and_eq_true, decide_eq_true_eq] at h
  obtain ⟨hr, hl, hi⟩ := h
  obtain ⟨h1, h2, h3⟩ := rowsB_true.1 hr
  have hf := flat_len (fun r hm => (h3 r hm).1)
  have hle : nS rows ≤ 64 := by rw [hf]; exact Nat.mul_le_mul h1.2 h2.2
  have hp : 0 < nS rows := by rw [hf]; exact Nat.mul_pos (by omega) (by omega)
  refine ⟨⟨h1.2, hle, hp, by omega⟩, ?_, all_app (flat_el fun r hm => (h3 r hm).2) hi, ⟨⟨by simp [St.parts], ?_⟩, ?_⟩, by simp [St.parts]⟩
  · show (rows.flatten ++ im).length ≤ 72
    rw [List.length_append, nS_flat]; omega
  · intro p hp'
    simp only [St.parts, List.mem_singleton] at hp'
    subst hp'
    exact ⟨h1.1, h1.2, h2.1, h2.2⟩
  · intro p hp'
    simp only [St.parts, List.mem_singleton] at hp'
    subst hp'
    exact ⟨h3, hl, hi⟩
theorem quads_sound {P Q : Int} : ∀ (n : Nat) (l : List Int), l.length = n * 4 → allEl P Q l = true → ∀ p ∈ quads l, (1 ≤ p.1.length ∧ p.1.length ≤ 8 ∧ 1 ≤ wid p.1 ∧ wid p.1 ≤ 8) ∧ (∀ r ∈ p.1, r.length = wid p.1 ∧ allEl P Q r = true) ∧ p.2.length = p.1.length ∧ allEl P Q p.2 = true
  | 0, l, h, _ => by
    have : l = [] := List.length_eq_zero_iff.1 (by omega)
    subst this; intro p hp; cases hp
  | n + 1, [], h, _ => by simp at h
  | n + 1, [_], h, _ => by simp at h; omega
  | n + 1, [_, _], h, _ => by simp at h; omega
  | n + 1, [_, _, _], h, _ => by simp at h; omega
  | n + 1, a :: b :: c :: d :: r, h, he => by
    simp only [List.length_cons] at h
    simp only [allEl, List.all_cons, Bool.and_eq_true] at he
    intro p hp
    simp only [quads, List.mem_cons] at hp
    rcases hp with rfl | hp
    · refine ⟨by simp [wid], ?_, by simp, by simp [allEl, he]⟩
      intro r hr
      simp only [List.mem_cons, List.not_mem_nil, or_false] at hr
      rcases hr with rfl | rfl <;> simp [wid, allEl, he]
    · exact quads_sound n r (by omega) he.2.2.2.2 p hp
theorem cho_facts {P Q : Int} {l : List Int} {n : Nat} (hn : l.length = n * 4) (h : (St.cho l).ok P Q = true) :
    l.length ≤ 32 ∧ (St.cho l).els.length ≤ 72 ∧ allEl P Q (St.cho l).els = true ∧ Sound P Q (St.cho l).parts ∧ 1 ≤ (St.cho l).parts.length := by
  rw [cho_ok hn] at h
  simp only [Bool.and_eq_true] at h
  obtain ⟨h1, h2⟩ := h
  rw [inB_true] at h1
  have hq := quads_length n l hn
  have hs := quads_sound n l hn h2
  refine ⟨by omega, by show l.length ≤ 72; omega, h2, ⟨⟨by show (quads l).length ≤ 8; omega, fun p hp => (hs p hp).1⟩, fun p hp => (hs p hp).2⟩, by show 1 ≤ (quads l).length; omega⟩
theorem cho_pos {P Q : Int} {l : List Int} (h : (St.cho l).ok P Q = true) : 0 < l.length := by
  simp only [St.ok, choB, Bool.and_eq_true, decide_eq_true_eq] at h; omega
theorem clm_facts {P Q : Int} {ps : List LinD} {l : List Int} (h : (St.clm ps l).ok P Q = true) :
    l.length ≤ 72 ∧ 0 < l.length ∧ (St.clm ps l).els.length ≤ 72 ∧ smB (St.clm ps l).els = true ∧ Sound P Q (St.clm ps l).parts ∧ 1 ≤ (St.clm ps l).parts.length := by
  simp only [St.ok, Bool.and_eq_true, decide_eq_true_eq, List.all_eq_true] at h
  obtain ⟨h1, h2, h3, h4⟩ := h
  refine ⟨h3.2, by omega, h3.2, h4, ⟨⟨h1.2, fun p hp => ?_⟩, fun p hp => ?_⟩, h1.1⟩
  · obtain ⟨a, b, c⟩ := rowsB_true.1 (h2 p hp).1
    exact ⟨a.1, a.2, b.1, b.2⟩
  · obtain ⟨a, b, c⟩ := rowsB_true.1 (h2 p hp).1
    exact ⟨c, (h2 p hp).2⟩
theorem exs_all {Q : Int} {es : List Int} (h : exsB' Q es = true) : allIn es 0 (Q - 1) = true := by
  simp only [exsB', Bool.and_eq_true, decide_eq_true_eq] at h
  exact h.2
theorem all_ex {Q : Int} {es : List Int} (h : allIn es 0 (Q - 1) = true) : ∀ e ∈ es, 0 ≤ e ∧ e < Q := fun e he => by
  unfold allIn at h; rw [List.all_eq_true] at h; have := inB_true.1 (h e he); omega
theorem cmts_len {P Q : Int} : ∀ (ps : List LinD) (h r : List Int), (∀ p ∈ ps, p.1.length ≤ 8) → (cmts P Q ps h r).length ≤ ps.length * 8
  | [], _, _, _ => by simp [cmts]
  | _ :: _, [], _, _ => by simp [cmts]
  | p :: ps, c :: cs, r, hp => by
    have ih := cmts_len (P := P) (Q := Q) ps cs (r.drop (wid p.1)) (fun p hm => hp p (by simp [hm]))
    have h1 := hp p (by simp)
    show (List.zipWith _ (imgs P p.1 _) p.2 ++ cmts P Q ps cs _).length ≤ _
    rw [List.length_append, List.length_zipWith, imgs_length, List.length_cons]
    omega
theorem InP.c {B : Nat} {w : World} {a1 a2 a3 : Option Addr} {n1 n2 n3 c1 c2 c3 : Nat} {p : PrD} (h : InP B w (pv3 a1 n1 c1 a2 n2 c2 a3 n3 c3) p) : InI B w (.slice a1 n1 c1) p.c := by
  obtain ⟨x, y, z, e, h1, _, _⟩ := h
  simp only [Value.agg.injEq, Array.mk.injEq, List.cons.injEq, and_true] at e
  obtain ⟨rfl, rfl, rfl⟩ := e
  exact h1
theorem InP.dr {B : Nat} {w : World} {v : Value} {p : PrD} (h : InP B w v p) : InP B w.drew v p := h
theorem msV_on {P Q G : Int} {s : ByteArray} {st : St} {cm ch : List Int} (h : chB P Q G s (st.els ++ cm) 3 = true) : msV P Q G s st.els cm ch = missV P Q G s st cm ch := by
  simp [msV, missV, h]

set_option maxRecDepth 100000 in
set_option maxHeartbeats 6400000 in
theorem fulfils_any (P Q G : Int) (hg : goodB P Q G = true) {ad : Option Addr} {n cap : Nat} {ps : List LinD} (hs : Sound P Q ps) (h1p : 1 ≤ ps.length) {B : Nat} {v : Value} {p : PrD} {cs : List Int} (hcs : cmts P Q ps p.h p.r = cs) (hl1 : p.c.length ≤ 1048576) (hcl : cs.length ≤ 1152921504606846976) (hh : p.h.length = ps.length) (hr : p.r.length = nCols ps) (hhi : allIn p.h 0 (Q - 1) = true) (hri : allIn p.r 0 (Q - 1) = true) {w : World} (hL : InL w (.slice ad n cap) ps) (hP : InP B w v p) :
    Calls Try.prog 134 #[gv P Q G, .slice ad n cap, v] w (EqOut (.bool (decide (p.c = cs))) w) := by
  obtain ⟨a1, c1, a2, c2, a3, c3, rfl, h1, h2, h3⟩ := hP.parts
  have hal := ba (w.alloc (.cells #[.int .i64 P, .int .i64 Q, .int .i64 G] 29)) (.cells #[.slice a1 p.c.length c1, .slice a2 p.h.length c2, .slice a3 p.r.length c3] 50)
  have HB_0 := Lib.hid (bt (ba w (.cells #[.int .i64 P, .int .i64 Q, .int .i64 G] 29)) hal)
  have G_0 := Lib.hid (GR.below (gr_new w P Q G 29) hal)
  have hv := b3_new (w.alloc (.cells #[.int .i64 P, .int .i64 Q, .int .i64 G] 29)) (.slice a1 p.c.length c1) (.slice a2 p.h.length c2) (.slice a3 p.r.length c3) 50
  have hs1 : (w.alloc (.cells #[.int .i64 P, .int .i64 Q, .int .i64 G] 29)).heap.size = w.heap.size + 1 := by simp
  rw [hs1] at hv
  have V_0 := Lib.hid hv
  have P_0 := Lib.hid (hP.below HB_0.out)
  have L_0 := Lib.hid (hL.below HB_0.out)
  have HG := Lib.hid hg
  have HS := Lib.hid hs
  have HCSE := Lib.hid hcs
  have HCL := Lib.hid hcl
  have Q3 := Lib.hid hh
  have Q5 := Lib.hid hr
  have Q4 := Lib.hid hhi
  have Q6 := Lib.hid hri
  obtain ⟨g0, g1, g2⟩ := G_0.out
  obtain ⟨pv0, pv1, pv2, _⟩ := V_0.out
  clear hal hv h1 h2 h3 hP hs1 hL hg hs hcs hcl hh hr hhi hri
  obtain ⟨W, hW⟩ : ∃ W, (w.alloc (.cells #[.int .i64 P, .int .i64 Q, .int .i64 G] 29)).alloc (.cells #[.slice a1 p.c.length c1, .slice a2 p.h.length c2, .slice a3 p.r.length c3] 50) = W := ⟨_, rfl⟩
  rw [hW] at HB_0 G_0 V_0 P_0 L_0 g0 g1 g2 pv0 pv1 pv2
  go_enter Try.func134, Try.ntmps134
  go_wp2_with fail
  clear hW
  go_region_held3 (fun w' => (w'.cell? ⟨w.heap.size, 0, none⟩ = some (.int .i64 P) ∧ w'.cell? ⟨w.heap.size, 1, none⟩ = some (.int .i64 Q) ∧ w'.cell? ⟨w.heap.size, 2, none⟩ = some (.int .i64 G)) ∧ w'.cell? ⟨w.heap.size + 1, 0, none⟩ = some (.slice a1 p.c.length c1) ∧ w'.cell? ⟨w.heap.size + 1, 1, none⟩ = some (.slice a2 p.h.length c2) ∧ w'.cell? ⟨w.heap.size + 1, 2, none⟩ = some (.slice a3 p.r.length c3)) (first | with_reducible exact ⟨⟨s0, s1, s2⟩, t0, t1, t2⟩ | with_reducible exact ⟨⟨x0, x1, x2⟩, y0, y1, y2⟩ | exact ⟨⟨g0, g1, g2⟩, pv0, pv1, pv2⟩) ((first
    | (go_at_call 128; refine (commitsOf_any P Q G HG.out HS.out h1p Q3.out Q5.out Q4.out Q6.out L_0.out.drew P_0.out.dr).mono ?_; rw [HCSE.out]; rintro e v6 ⟨rc, rfl, ho, hb⟩; obtain ⟨ra, rcc, rfl⟩ := ho.toIn.shape; have hb6 : Below W.heap.size W v6 := bt ((Below.refl _ W).drew) hb; have HB_6 := Lib.hid (bt HB_0.out hb6); have C_6 := Lib.hid (P_0.out.c.below hb6); have HO := Lib.hid ho.toIn; obtain ⟨s0, s1, s2⟩ := G_0.out.below hb6; obtain ⟨t0, t1, t2, _⟩ := V_0.out.below hb6; have G_6 := Lib.hid (G_0.out.below hb6); have V_6 := Lib.hid (V_0.out.below hb6); clear hb hb6 ho)
    | (go_at_call 162; refine (equal_any _ _ _ _ _ _ p.c cs rfl rfl (by omega) HCL.out _ (C_6.out.ints).1 (HO.out.ints).1).mono ?_; rintro e v7 ⟨rfl, hb⟩; have HB_7 := Lib.hid (bt HB_6.out hb); obtain ⟨x0, x1, x2⟩ := G_6.out.below hb; obtain ⟨y0, y1, y2, _⟩ := V_6.out.below hb; clear hb)
    | fail))
  all_goals (
    go_wp2_with fail
    go_ret
    first | exact ⟨rfl, HB_7.out⟩ | exact ⟨rfl, HB_7.out.drew⟩)

set_option maxRecDepth 100000 in
set_option maxHeartbeats 6400000 in
theorem isProofLin_any (P Q G : Int) (hg : goodB P Q G = true) (s : ByteArray) (h40 : s.size ≤ 40) {B1 B2 : Nat} {u1 u2 : Value} {rows : List (List Int)} {im : List Int} (hok : (St.lin rows im).ok P Q = true) {B : Nat} {v : Value} {p : PrD} (hpn : p.n ≤ 1048576) {w : World} (hu1 : InS B1 w u1 rows) (hu2 : InI B2 w u2 im) (hP : InP B w v p) :
    Calls Try.prog 91 #[gv P Q G, .string s, .iface 156 (.agg #[u1, u2]), v] w (EqOut (.tuple #[.bool (vrV P Q G s (St.lin rows im) p), .bool true]) w) := by
  obtain ⟨y1, y2, rfl⟩ := hu1.shape
  obtain ⟨z1, z2, rfl⟩ := hu2.shape
  obtain ⟨a1, c1, a2, c2, a3, c3, rfl, h1, h2, h3⟩ := hP.parts
  obtain ⟨hl1, hl2, hl3⟩ : p.c.length ≤ 1048576 ∧ p.h.length ≤ 1048576 ∧ p.r.length ≤ 1048576 := by unfold PrD.n at hpn; omega
  have hm2 : ∀ (k : Nat) (W : World), (method (k + 1) 156 (.agg #[.slice y1 rows.length y2, .slice z1 im.length z2]) "loop.example/g00878/impl.parts").run Try.prog W = .ok (200, (.agg #[.slice y1 rows.length y2, .slice z1 im.length z2])) W := fun _ _ => by kernel_rfl
  have hal := ba (w.alloc (.cells #[.int .i64 P, .int .i64 Q, .int .i64 G] 29)) (.cells #[.slice a1 p.c.length c1, .slice a2 p.h.length c2, .slice a3 p.r.length c3] 50)
  have HB_0 := Lib.hid (bt (ba w (.cells #[.int .i64 P, .int .i64 Q, .int .i64 G] 29)) hal)
  have G_0 := Lib.hid (GR.below (gr_new w P Q G 29) hal)
  have hv := b3_new (w.alloc (.cells #[.int .i64 P, .int .i64 Q, .int .i64 G] 29)) (.slice a1 p.c.length c1) (.slice a2 p.h.length c2) (.slice a3 p.r.length c3) 50
  have hs1 : (w.alloc (.cells #[.int .i64 P, .int .i64 Q, .int .i64 G] 29)).heap.size = w.heap.size + 1 := by simp
  rw [hs1] at hv
  have V_0 := Lib.hid hv
  have P_0 := Lib.hid (hP.below HB_0.out)
  have M1_0 := Lib.hid (hu1.below HB_0.out)
  have M2_0 := Lib.hid (hu2.below HB_0.out)
  obtain ⟨⟨f1, f2, f3, f4⟩, f5, f6, f7, f8⟩ := lin_facts hok
  have hmo := good_mo hg
  have hs : s.size ≤ 1048576 := by omega
  have HG := Lib.hid hg
  have F6 := Lib.hid f6
  have F7 := Lib.hid f7
  have E1 := Lib.hid (show vrB P Q G s (St.lin rows im) = true by simp [vrB, hg, h40, hok])
  obtain ⟨g0, g1, g2⟩ := G_0.out
  obtain ⟨pv0, pv1, pv2, _⟩ := V_0.out
  clear hal hv h1 h2 h3 hP hs1 hok hu1 hu2
  cases hfo : formB P Q (St.lin rows im).parts p
  · have E2 := Lib.hid (show vrV P Q G s (St.lin rows im) p = false by simp [vrV, hfo])
    rw [E2.out]
    have HFO := Lib.hid hfo
    clear hg hfo f6 f7
    go_enter Try.func91, Try.ntmps91
    go_wp2_with fail
    refine (linParts_any M1_0.out M2_0.out).mono ?_
    rintro e v1 ⟨rp, rfl, hL, hb⟩
    have HB_1 := Lib.hid (bt HB_0.out hb)
    have G_1 := Lib.hid (G_0.out.below hb)
    have V_1 := Lib.hid (V_0.out.below hb)
    have P_1 := Lib.hid (P_0.out.below hb)
    have M1_1 := Lib.hid (M1_0.out.below hb)
    have M2_1 := Lib.hid (M2_0.out.below hb)
    clear hb g0 g1 g2 pv0 pv1 pv2
    obtain ⟨g0, g1, g2⟩ := G_1.out
    obtain ⟨pv0, pv1, pv2, _⟩ := V_1.out
    obtain ⟨lg, lc, rfl, _⟩ := id hL
    have L_1 := Lib.hid hL
    clear hL
    go_wp2_with fail
    refine (formLoop_any P Q G hmo F7.out.1 hpn L_1.out P_1.out).mono ?_
    rw [HFO.out]
    rintro e v2 ⟨rfl, hb⟩
    have HB_2 := Lib.hid (bt HB_1.out hb)
    have G_2 := Lib.hid (G_1.out.below hb)
    have V_2 := Lib.hid (V_1.out.below hb)
    have P_2 := Lib.hid (P_1.out.below hb)
    have M1_2 := Lib.hid (M1_1.out.below hb)
    have M2_2 := Lib.hid (M2_1.out.below hb)
    have L_2 := Lib.hid (L_1.out.below hb)
    clear hb g0 g1 g2 pv0 pv1 pv2
    obtain ⟨g0, g1, g2⟩ := G_2.out
    obtain ⟨pv0, pv1, pv2, _⟩ := V_2.out
    go_wp2
    go_ret2
    exact ⟨rfl, HB_2.out⟩
  have hfo2 := formB_true.1 hfo
  obtain ⟨q1, q2, q3, q4, q5, q6⟩ := hfo2
  have hcr : p.c.length ≤ 24 := by simp only [elsB, Bool.and_eq_true, decide_eq_true_eq] at q2; exact q2.1
  have hce : allEl P Q p.c = true := by rw [elsB_all hcr] at q2; exact q2
  have hch : chB P Q G s ((St.lin rows im).els ++ p.c) 3 = true := ch_ok hg h40 (by rw [List.length_append]; omega) (all_app f6 hce)
  have HCH := Lib.hid hch
  have HMV := Lib.hid (msV_on (ch := p.h) hch)
  have HHI := Lib.hid (all_ex (exs_all q4))
  have Q4 := Lib.hid (exs_all q4)
  have Q6 := Lib.hid (exs_all q6)
  have Q3 := Lib.hid q3
  have Q5 := Lib.hid q5
  have HFO := Lib.hid hfo
  have EV := Lib.hid (show vrV P Q G s (St.lin rows im) p = (decide (missV P Q G s (St.lin rows im) p.c p.h = 0) && decide (p.c = cmts P Q (St.lin rows im).parts p.h p.r)) by simp [vrV, E1.out, hfo])
  rw [EV.out]
  obtain ⟨mi, hmi⟩ : ∃ mi, missV P Q G s (St.lin rows im) p.c p.h = mi := ⟨_, rfl⟩
  rw [hmi] at HMV ⊢
  obtain ⟨cs, hcs⟩ : ∃ cs, cmts P Q (St.lin rows im).parts p.h p.r = cs := ⟨_, rfl⟩
  rw [hcs]
  have HCSE := Lib.hid hcs
  have HCL := Lib.hid (show cs.length ≤ 1152921504606846976 from by have h9 := cmts_len (P := P) (Q := Q) _ p.h p.r (fun q hq => (f7.1.2 q hq).2.1); rw [hcs] at h9; have := f7.1.1; omega)
  clear hg hfo f6 f7 q1 q2 q3 q4 q5 q6 hce hch hmi hcs
  by_cases hz : ¬ mi = 0
  · have hzi : (mi == 0) = false := by simp; omega
    rw [decide_eq_false hz, Bool.false_and]
    clear hz
    go_enter Try.func91, Try.ntmps91
    go_wp2_with fail
    refine (linParts_any M1_0.out M2_0.out).mono ?_
    rintro e v1 ⟨rp, rfl, hL, hb⟩
    have HB_1 := Lib.hid (bt HB_0.out hb)
    have G_1 := Lib.hid (G_0.out.below hb)
    have V_1 := Lib.hid (V_0.out.below hb)
    have P_1 := Lib.hid (P_0.out.below hb)
    have M1_1 := Lib.hid (M1_0.out.below hb)
    have M2_1 := Lib.hid (M2_0.out.below hb)
    clear hb g0 g1 g2 pv0 pv1 pv2
    obtain ⟨g0, g1, g2⟩ := G_1.out
    obtain ⟨pv0, pv1, pv2, _⟩ := V_1.out
    obtain ⟨lg, lc, rfl, _⟩ := id hL
    have L_1 := Lib.hid hL
    clear hL
    go_wp2_with fail
    refine (formLoop_any P Q G hmo F7.out.1 hpn L_1.out P_1.out).mono ?_
    rw [HFO.out]
    rintro e v2 ⟨rfl, hb⟩
    have HB_2 := Lib.hid (bt HB_1.out hb)
    have G_2 := Lib.hid (G_1.out.below hb)
    have V_2 := Lib.hid (V_1.out.below hb)
    have P_2 := Lib.hid (P_1.out.below hb)
    have M1_2 := Lib.hid (M1_1.out.below hb)
    have M2_2 := Lib.hid (M2_1.out.below hb)
    have L_2 := Lib.hid (L_1.out.below hb)
    clear hb g0 g1 g2 pv0 pv1 pv2
    obtain ⟨g0, g1, g2⟩ := G_2.out
    obtain ⟨pv0, pv1, pv2, _⟩ := V_2.out
    go_wp2_with fail
    refine (msLin_any P Q G HG.out s hs f1 (by omega) f3 f4 hpn HHI.out M1_2.out M2_2.out P_2.out).mono ?_
    rw [HMV.out, HCH.out]
    rintro e v3 ⟨rfl, hb⟩
    have HB_3 := Lib.hid (bt HB_2.out hb)
    have G_3 := Lib.hid (G_2.out.below hb)
    have V_3 := Lib.hid (V_2.out.below hb)
    have P_3 := Lib.hid (P_2.out.below hb)
    have M1_3 := Lib.hid (M1_2.out.below hb)
    have M2_3 := Lib.hid (M2_2.out.below hb)
    have L_3 := Lib.hid (L_2.out.below hb)
    clear hb g0 g1 g2 pv0 pv1 pv2
    obtain ⟨g0, g1, g2⟩ := G_3.out
    obtain ⟨pv0, pv1, pv2, _⟩ := V_3.out
    go_wp2
    go_ret2
    exact ⟨rfl, HB_3.out⟩
  have hz := Decidable.not_not.1 hz
  subst hz
  rw [decide_eq_true rfl, Bool.true_and]
  go_enter Try.func91, Try.ntmps91
  go_wp2_with fail
  refine (linParts_any M1_0.out M2_0.out).mono ?_
  rintro e v1 ⟨rp, rfl, hL, hb⟩
  have HB_1 := Lib.hid (bt HB_0.out hb)
  have G_1 := Lib.hid (G_0.out.below hb)
  have V_1 := Lib.hid (V_0.out.below hb)
  have P_1 := Lib.hid (P_0.out.below hb)
  have M1_1 := Lib.hid (M1_0.out.below hb)
  have M2_1 := Lib.hid (M2_0.out.below hb)
  clear hb g0 g1 g2 pv0 pv1 pv2
  obtain ⟨g0, g1, g2⟩ := G_1.out
  obtain ⟨pv0, pv1, pv2, _⟩ := V_1.out
  obtain ⟨lg, lc, rfl, _⟩ := id hL
  have L_1 := Lib.hid hL
  clear hL
  go_wp2_with fail
  refine (formLoop_any P Q G hmo F7.out.1 hpn L_1.out P_1.out).mono ?_
  rw [HFO.out]
  rintro e v2 ⟨rfl, hb⟩
  have HB_2 := Lib.hid (bt HB_1.out hb)
  have G_2 := Lib.hid (G_1.out.below hb)
  have V_2 := Lib.hid (V_1.out.below hb)
  have P_2 := Lib.hid (P_1.out.below hb)
  have M1_2 := Lib.hid (M1_1.out.below hb)
  have M2_2 := Lib.hid (M2_1.out.below hb)
  have L_2 := Lib.hid (L_1.out.below hb)
  clear hb g0 g1 g2 pv0 pv1 pv2
  obtain ⟨g0, g1, g2⟩ := G_2.out
  obtain ⟨pv0, pv1, pv2, _⟩ := V_2.out
  go_wp2_with fail
  refine (msLin_any P Q G HG.out s hs f1 (by omega) f3 f4 hpn HHI.out M1_2.out M2_2.out P_2.out).mono ?_
  rw [HMV.out, HCH.out]
  rintro e v3 ⟨rfl, hb⟩
  have HB_3 := Lib.hid (bt HB_2.out hb)
  have G_3 := Lib.hid (G_2.out.below hb)
  have V_3 := Lib.hid (V_2.out.below hb)
  have P_3 := Lib.hid (P_2.out.below hb)
  have M1_3 := Lib.hid (M1_2.out.below hb)
  have M2_3 := Lib.hid (M2_2.out.below hb)
  have L_3 := Lib.hid (L_2.out.below hb)
  clear hb g0 g1 g2 pv0 pv1 pv2
  obtain ⟨g0, g1, g2⟩ := G_3.out
  obtain ⟨pv0, pv1, pv2, _⟩ := V_3.out
  go_wp2_with fail
  refine (fulfils_any P Q G HG.out F7.out f8 HCSE.out (by omega) HCL.out Q3.out Q5.out Q4.out Q6.out L_3.out P_3.out).mono ?_
  rintro e v4 ⟨rfl, hb⟩
  have HB_4 := Lib.hid (bt HB_3.out hb)
  clear hb
  go_wp2
  go_ret2
  exact ⟨rfl, HB_4.out⟩

set_option maxRecDepth 100000 in
set_option maxHeartbeats 6400000 in
theorem isProofClm_any (P Q G : Int) (hg : goodB P Q G = true) (s : ByteArray) (h40 : s.size ≤ 40) {B1 : Nat} {u1 u2 : Value} {ps : List LinD} {es : List Int} (hok : (St.clm ps es).ok P Q = true) {B : Nat} {v : Value} {p : PrD} (hpn : p.n ≤ 1048576) {w : World} (hu1 : InL w u1 ps) (hu2 : InI B1 w u2 es) (hP : InP B w v p) :
    Calls Try.prog 91 #[gv P Q G, .string s, .iface 113 (.agg #[u1, u2]), v] w (EqOut (.tuple #[.bool (vrV P Q G s (St.clm ps es) p), .bool true]) w) := by
  obtain ⟨y1, y2, rfl, _⟩ := id hu1
  obtain ⟨z1, z2, rfl⟩ := hu2.shape
  obtain ⟨a1, c1, a2, c2, a3, c3, rfl, h1, h2, h3⟩ := hP.parts
  obtain ⟨hl1, hl2, hl3⟩ : p.c.length ≤ 1048576 ∧ p.h.length ≤ 1048576 ∧ p.r.length ≤ 1048576 := by unfold PrD.n at hpn; omega
  have hm2 : ∀ (k : Nat) (W : World), (method (k + 1) 113 (.agg #[.slice (some ⟨y1, 0, none⟩) ps.length y2, .slice z1 es.length z2]) "loop.example/g00878/impl.parts").run Try.prog W = .ok (197, (.agg #[.slice (some ⟨y1, 0, none⟩) ps.length y2, .slice z1 es.length z2])) W := fun _ _ => by kernel_rfl
  have hal := ba (w.alloc (.cells #[.int .i64 P, .int .i64 Q, .int .i64 G] 29)) (.cells #[.slice a1 p.c.length c1, .slice a2 p.h.length c2, .slice a3 p.r.length c3] 50)
  have HB_0 := Lib.hid (bt (ba w (.cells #[.int .i64 P, .int .i64 Q, .int .i64 G] 29)) hal)
  have G_0 := Lib.hid (GR.below (gr_new w P Q G 29) hal)
  have hv := b3_new (w.alloc (.cells #[.int .i64 P, .int .i64 Q, .int .i64 G] 29)) (.slice a1 p.c.length c1) (.slice a2 p.h.length c2) (.slice a3 p.r.length c3) 50
  have hs1 : (w.alloc (.cells #[.int .i64 P, .int .i64 Q, .int .i64 G] 29)).heap.size = w.heap.size + 1 := by simp
  rw [hs1] at hv
  have V_0 := Lib.hid hv
  have P_0 := Lib.hid (hP.below HB_0.out)
  have M1_0 := Lib.hid (hu1.below HB_0.out)
  have M2_0 := Lib.hid (hu2.below HB_0.out)
  obtain ⟨f1, f9, f5, f6, f7, f8⟩ := clm_facts hok
  have hmo := good_mo hg
  have hs : s.size ≤ 1048576 := by omega
  have HG := Lib.hid hg
  have F6 := Lib.hid f6
  have F7 := Lib.hid f7
  have E1 := Lib.hid (show vrB P Q G s (St.clm ps es) = true by simp [vrB, hg, h40, hok])
  obtain ⟨g0, g1, g2⟩ := G_0.out
  obtain ⟨pv0, pv1, pv2, _⟩ := V_0.out
  clear hal hv h1 h2 h3 hP hs1 hok hu1 hu2
  cases hfo : formB P Q (St.clm ps es).parts p
  · have E2 := Lib.hid (show vrV P Q G s (St.clm ps es) p = false by simp [vrV, hfo])
    rw [E2.out]
    have HFO := Lib.hid hfo
    clear hg hfo f6 f7
    go_enter Try.func91, Try.ntmps91
    go_wp2_with fail
    refine (clmParts_any M1_0.out M2_0.out).mono ?_
    rintro e v1 ⟨rp, rfl, hL, hb⟩
    have HB_1 := Lib.hid (bt HB_0.out hb)
    have G_1 := Lib.hid (G_0.out.below hb)
    have V_1 := Lib.hid (V_0.out.below hb)
    have P_1 := Lib.hid (P_0.out.below hb)
    have M1_1 := Lib.hid (M1_0.out.below hb)
    have M2_1 := Lib.hid (M2_0.out.below hb)
    clear hb g0 g1 g2 pv0 pv1 pv2
    obtain ⟨g0, g1, g2⟩ := G_1.out
    obtain ⟨pv0, pv1, pv2, _⟩ := V_1.out
    obtain ⟨lg, lc, rfl, _⟩ := id hL
    have L_1 := Lib.hid hL
    clear hL
    go_wp2_with fail
    refine (formLoop_any P Q G hmo F7.out.1 hpn L_1.out P_1.out).mono ?_
    rw [HFO.out]
    rintro e v2 ⟨rfl, hb⟩
    have HB_2 := Lib.hid (bt HB_1.out hb)
    have G_2 := Lib.hid (G_1.out.below hb)
    have V_2 := Lib.hid (V_1.out.below hb)
    have P_2 := Lib.hid (P_1.out.below hb)
    have M1_2 := Lib.hid (M1_1.out.below hb)
    have M2_2 := Lib.hid (M2_1.out.below hb)
    have L_2 := Lib.hid (L_1.out.below hb)
    clear hb g0 g1 g2 pv0 pv1 pv2
    obtain ⟨g0, g1, g2⟩ := G_2.out
    obtain ⟨pv0, pv1, pv2, _⟩ := V_2.out
    go_wp2
    go_ret2
    exact ⟨rfl, HB_2.out⟩
  have hfo2 := formB_true.1 hfo
  obtain ⟨q1, q2, q3, q4, q5, q6⟩ := hfo2
  have hcr : p.c.length ≤ 24 := by simp only [elsB, Bool.and_eq_true, decide_eq_true_eq] at q2; exact q2.1
  have hce : allEl P Q p.c = true := by rw [elsB_all hcr] at q2; exact q2
  have hch : chB P Q G s ((St.clm ps es).els ++ p.c) 3 = true := ch_ok2 hg h40 (by rw [List.length_append]; omega) f6 hce
  have HCH := Lib.hid hch
  have HMV := Lib.hid (msV_on (ch := p.h) hch)
  have HHI := Lib.hid (all_ex (exs_all q4))
  have Q4 := Lib.hid (exs_all q4)
  have Q6 := Lib.hid (exs_all q6)
  have Q3 := Lib.hid q3
  have Q5 := Lib.hid q5
  have HFO := Lib.hid hfo
  have EV := Lib.hid (show vrV P Q G s (St.clm ps es) p = (decide (missV P Q G s (St.clm ps es) p.c p.h = 0) && decide (p.c = cmts P Q (St.clm ps es).parts p.h p.r)) by simp [vrV, E1.out, hfo])
  rw [EV.out]
  obtain ⟨mi, hmi⟩ : ∃ mi, missV P Q G s (St.clm ps es) p.c p.h = mi := ⟨_, rfl⟩
  rw [hmi] at HMV ⊢
  obtain ⟨cs, hcs⟩ : ∃ cs, cmts P Q (St.clm ps es).parts p.h p.r = cs := ⟨_, rfl⟩
  rw [hcs]
  have HCSE := Lib.hid hcs
  have HCL := Lib.hid (show cs.length ≤ 1152921504606846976 from by have h9 := cmts_len (P := P) (Q := Q) _ p.h p.r (fun q hq => (f7.1.2 q hq).2.1); rw [hcs] at h9; have := f7.1.1; omega)
  clear hg hfo f6 f7 q1 q2 q3 q4 q5 q6 hce hch hmi hcs
  by_cases hz : ¬ mi = 0
  · have hzi : (mi == 0) = false := by simp; omega
    rw [decide_eq_false hz, Bool.false_and]
    clear hz
    go_enter Try.func91, Try.ntmps91
    go_wp2_with fail
    refine (clmParts_any M1_0.out M2_0.out).mono ?_
    rintro e v1 ⟨rp, rfl, hL, hb⟩
    have HB_1 := Lib.hid (bt HB_0.out hb)
    have G_1 := Lib.hid (G_0.out.below hb)
    have V_1 := Lib.hid (V_0.out.below hb)
    have P_1 := Lib.hid (P_0.out.below hb)
    have M1_1 := Lib.hid (M1_0.out.below hb)
    have M2_1 := Lib.hid (M2_0.out.below hb)
    clear hb g0 g1 g2 pv0 pv1 pv2
    obtain ⟨g0, g1, g2⟩ := G_1.out
    obtain ⟨pv0, pv1, pv2, _⟩ := V_1.out
    obtain ⟨lg, lc, rfl, _⟩ := id hL
    have L_1 := Lib.hid hL
    clear hL
    go_wp2_with fail
    refine (formLoop_any P Q G hmo F7.out.1 hpn L_1.out P_1.out).mono ?_
    rw [HFO.out]
    rintro e v2 ⟨rfl, hb⟩
    have HB_2 := Lib.hid (bt HB_1.out hb)
    have G_2 := Lib.hid (G_1.out.below hb)
    have V_2 := Lib.hid (V_1.out.below hb)
    have P_2 := Lib.hid (P_1.out.below hb)
    have M1_2 := Lib.hid (M1_1.out.below hb)
    have M2_2 := Lib.hid (M2_1.out.below hb)
    have L_2 := Lib.hid (L_1.out.below hb)
    clear hb g0 g1 g2 pv0 pv1 pv2
    obtain ⟨g0, g1, g2⟩ := G_2.out
    obtain ⟨pv0, pv1, pv2, _⟩ := V_2.out
    go_wp2_with fail
    refine (msClm_any P Q G HG.out s hs f1 f9 hpn HHI.out M1_2.out M2_2.out P_2.out).mono ?_
    rw [HMV.out, HCH.out]
    rintro e v3 ⟨rfl, hb⟩
    have HB_3 := Lib.hid (bt HB_2.out hb)
    have G_3 := Lib.hid (G_2.out.below hb)
    have V_3 := Lib.hid (V_2.out.below hb)
    have P_3 := Lib.hid (P_2.out.below hb)
    have M1_3 := Lib.hid (M1_2.out.below hb)
    have M2_3 := Lib.hid (M2_2.out.below hb)
    have L_3 := Lib.hid (L_2.out.below hb)
    clear hb g0 g1 g2 pv0 pv1 pv2
    obtain ⟨g0, g1, g2⟩ := G_3.out
    obtain ⟨pv0, pv1, pv2, _⟩ := V_3.out
    go_wp2
    go_ret2
    exact ⟨rfl, HB_3.out⟩
  have hz := Decidable.not_not.1 hz
  subst hz
  rw [decide_eq_true rfl, Bool.true_and]
  go_enter Try.func91, Try.ntmps91
  go_wp2_with fail
  refine (clmParts_any M1_0.out M2_0.out).mono ?_
  rintro e v1 ⟨rp, rfl, hL, hb⟩
  have HB_1 := Lib.hid (bt HB_0.out hb)
  have G_1 := Lib.hid (G_0.out.below hb)
  have V_1 := Lib.hid (V_0.out.below hb)
  have P_1 := Lib.hid (P_0.out.below hb)
  have M1_1 := Lib.hid (M1_0.out.below hb)
  have M2_1 := Lib.hid (M2_0.out.below hb)
  clear hb g0 g1 g2 pv0 pv1 pv2
  obtain ⟨g0, g1, g2⟩ := G_1.out
  obtain ⟨pv0, pv1, pv2, _⟩ := V_1.out
  obtain ⟨lg, lc, rfl, _⟩ := id hL
  have L_1 := Lib.hid hL
  clear hL
  go_wp2_with fail
  refine (formLoop_any P Q G hmo F7.out.1 hpn L_1.out P_1.out).mono ?_
  rw [HFO.out]
  rintro e v2 ⟨rfl, hb⟩
  have HB_2 := Lib.hid (bt HB_1.out hb)
  have G_2 := Lib.hid (G_1.out.below hb)
  have V_2 := Lib.hid (V_1.out.below hb)
  have P_2 := Lib.hid (P_1.out.below hb)
  have M1_2 := Lib.hid (M1_1.out.below hb)
  have M2_2 := Lib.hid (M2_1.out.below hb)
  have L_2 := Lib.hid (L_1.out.below hb)
  clear hb g0 g1 g2 pv0 pv1 pv2
  obtain ⟨g0, g1, g2⟩ := G_2.out
  obtain ⟨pv0, pv1, pv2, _⟩ := V_2.out
  go_wp2_with fail
  refine (msClm_any P Q G HG.out s hs f1 f9 hpn HHI.out M1_2.out M2_2.out P_2.out).mono ?_
  rw [HMV.out, HCH.out]
  rintro e v3 ⟨rfl, hb⟩
  have HB_3 := Lib.hid (bt HB_2.out hb)
  have G_3 := Lib.hid (G_2.out.below hb)
  have V_3 := Lib.hid (V_2.out.below hb)
  have P_3 := Lib.hid (P_2.out.below hb)
  have M1_3 := Lib.hid (M1_2.out.below hb)
  have M2_3 := Lib.hid (M2_2.out.below hb)
  have L_3 := Lib.hid (L_2.out.below hb)
  clear hb g0 g1 g2 pv0 pv1 pv2
  obtain ⟨g0, g1, g2⟩ := G_3.out
  obtain ⟨pv0, pv1, pv2, _⟩ := V_3.out
  go_wp2_with fail
  refine (fulfils_any P Q G HG.out F7.out f8 HCSE.out (by omega) HCL.out Q3.out Q5.out Q4.out Q6.out L_3.out P_3.out).mono ?_
  rintro e v4 ⟨rfl, hb⟩
  have HB_4 := Lib.hid (bt HB_3.out hb)
  clear hb
  go_wp2
  go_ret2
  exact ⟨rfl, HB_4.out⟩

end Go.Proofs.Ytdnofcpobpoehaa

/- Sigma proofs: rows and images of the reference; ImagesOf and IsTrueEqual of both. -/
namespace Go.Proofs.Ytdnofcpobpoehaa
open Go.RowKit
set_option linter.unusedVariables false
set_option linter.unusedSimpArgs false

theorem rowB_in2 {P Q : Int} {n : Nat} {r : List Int} (h : r.length = n) : rowB P Q n r = allEl P Q r := by simp [rowB, h]
def C1 (w : World) (b o : Nat) (v : Value) : Prop := w.cell? ⟨b, o, none⟩ = some v
theorem C1.below {w w' : World} {b o : Nat} {v : Value} (h : C1 w b o v) (hb : Below w.heap.size w w') : C1 w' b o v := by
  unfold C1 at *
  rw [hb.cell (p := ⟨b, o, none⟩) (World.block_lt_of_cell? w _ h)]; exact h
theorem row_zero {B : Nat} {w : World} {ad : Option Addr} {n cap : Nat} {z : List Int} {rest : List (List Int)} (h : InS B w (.slice ad n cap) (z :: rest)) : ∃ b off a c, ad = some ⟨b, off, none⟩ ∧ C1 w b off (.slice a z.length c) := by
  obtain ⟨b, off, a, c, z', h1, _, h2, _, h3⟩ := h.at (k := 0) (by simp)
  rw [Nat.add_zero] at h2
  simp only [List.drop_zero, List.cons.injEq] at h3
  rw [← h3.1] at h2
  exact ⟨b, off, a, c, h1, h2⟩
theorem wid_cons (z : List Int) (rest : List (List Int)) : wid (z :: rest) = z.length := rfl
/-! ### ImagesOf -/
def AnsI (w : World) (zs : List Int) (ok : Bool) (e : Ending) (w' : World) : Prop := ∃ v, e = .returned (.tuple #[v, .bool ok]) ∧ OwI w.heap.size w'.heap.size w' v zs ∧ Below w.heap.size w w'
theorem ansI_nil {w w' : World} (hb : Below w.heap.size w w') : AnsI w [] false (.returned (.tuple #[.slice none 0 0, .bool false])) w' := ⟨_, rfl, owI_nil _ _ hb.size, hb⟩
theorem im_rows {P Q G : Int} {rows : List (List Int)} {es : List Int} (h : imB P Q G rows es = true) : rows.length ≤ 8 ∧ es.length ≤ 8 ∧ ∀ z ∈ rows, z.length = es.length ∧ allEl P Q z = true := by
  obtain ⟨_, h1, h2, _⟩ := imB_true.1 h
  obtain ⟨h3, h4, h5⟩ := rowsB_true.1 h1
  exact ⟨h3.2, by omega, fun z hz => ⟨by rw [(h5 z hz).1, h2], (h5 z hz).2⟩⟩

theorem imV_len (P Q G : Int) (rows : List (List Int)) (es : List Int) : (imV P Q G rows es).length ≤ 8 := by
  cases h : imB P Q G rows es
  · rw [im_off h]; exact Nat.zero_le _
  · rw [im_on h, imgs_length]; exact (im_rows h).1
end Go.Proofs.Ytdnofcpobpoehaa

/- Sigma proofs: IsTrueEqual of both. -/
namespace Go.Proofs.Ytdnofcpobpoehaa
open Go.RowKit
set_option linter.unusedVariables false
set_option linter.unusedSimpArgs false

def isT (P a b c d x : Int) : Bool := decide (Num.pow a x P = b) && decide (Num.pow c x P = d)
def teB (P Q G a b c d x : Int) : Bool := goodB P Q G && (allEl P Q [a, b, c, d] && exB Q x)
def teV (P Q G a b c d x : Int) : Bool := teB P Q G a b c d x && isT P a b c d x
theorem exB_one (Q x : Int) : allIn [x] 0 (Q - 1) = exB Q x := by simp [allIn, exB]
theorem four_rng {P Q a b c d : Int} (hP : P ≤ 2000000000) (h : allEl P Q [a, b, c, d] = true) : (0 ≤ a ∧ a ≤ 2000000000) ∧ 0 ≤ c ∧ c ≤ 2000000000 := by
  have h1 := all_rng h a (by simp); have h2 := all_rng h c (by simp)
  exact ⟨⟨h1.1, by omega⟩, h2.1, by omega⟩
theorem sElements_any (P Q G a b c d : Int) (hm : Mo P Q) (w : World) :
    Calls Try.prog 110 #[gv P Q G, ev4 a b c d] w fun e w' => e = .returned (.bool (allEl P Q [a, b, c, d])) ∧ Below w.heap.size w w' := by
  have hal := ba (w.alloc (.cells #[.int .i64 P, .int .i64 Q, .int .i64 G] 29)) (.cells #[.int .i64 a, .int .i64 b, .int .i64 c, .int .i64 d] 93)
  have HB_0 := Lib.hid (bt (ba w (.cells #[.int .i64 P, .int .i64 Q, .int .i64 G] 29)) hal)
  have G_0 := Lib.hid (GR.below (gr_new w P Q G 29) hal)
  have hv := v4_new (w.alloc (.cells #[.int .i64 P, .int .i64 Q, .int .i64 G] 29)) a b c d 93
  rw [show (w.alloc (.cells #[.int .i64 P, .int .i64 Q, .int .i64 G] 29)).heap.size = w.heap.size + 1 by simp] at hv
  have V_0 := Lib.hid hv
  clear hal hv
  obtain ⟨g0, g1, g2⟩ := G_0.out
  obtain ⟨e0, e1, e2, e3⟩ := V_0.out
  go_enter Try.func110, Try.ntmps110
  generalize hW : (w.alloc (.cells #[.int .i64 P, .int .i64 Q, .int .i64 G] 29)).alloc (.cells #[.int .i64 a, .int .i64 b, .int .i64 c, .int .i64 d] 93) = W at *
  go_wp2_with fail
  refine (gIs_any P Q G hm _ 4 4 [a, b, c, d] rfl (by decide) _ (ints_spot W _ rfl [a, b, c, d] 3)).mono ?_
  rintro e w' ⟨rfl, hb⟩
  have HB_1 := Lib.hid (bt HB_0.out (bt (ba W _) hb))
  clear hb
  go_wp2
  go_ret
  exact ⟨rfl, HB_1.out⟩

end Go.Proofs.Ytdnofcpobpoehaa

