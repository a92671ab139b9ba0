/- Sigma proofs, the program: the verifier. -/
import Derived.Test.YtdaekpfngphefaaSigA
namespace Go.Proofs.Ytdaekpfngphefaa
open Go.RowKit
set_option linter.unusedVariables false
set_option linter.unusedSimpArgs false

/-! ### What a valid statement gives -/
theorem all_app {P Q : Int} {a b : List Int} (h : allEl P Q a = true) (k : allEl P Q b = true) : allEl P Q (a ++ b) = true := by
  unfold allEl at *
  rw [List.all_append, h, k]; rfl
theorem ch_ok {P Q G : Int} {s : ByteArray} {zs : List Int} (hg : goodB P Q G = true) (hs : s.size ≤ 40) (hl : zs.length ≤ 200) (he : allEl P Q zs = true) : chB P Q G s zs 3 = true := by
  refine chB_true.2 ⟨hg, labB_true.2 ⟨by omega, by omega⟩, digsB_true.2 fun z hz => ?_⟩
  have := els_range he z hz
  have := (good_mo hg).1
  omega
theorem ch_ok2 {P Q G : Int} {s : ByteArray} {a b : List Int} (hg : goodB P Q G = true) (hs : s.size ≤ 40) (hl : (a ++ b).length ≤ 200) (ha : smB a = true) (hb : allEl P Q b = true) : chB P Q G s (a ++ b) 3 = true := by
  refine chB_true.2 ⟨hg, labB_true.2 ⟨by omega, by omega⟩, digsB_true.2 fun z hz => ?_⟩
  rcases List.mem_append.1 hz with h | h
  · have := smB_true.1 ha z h
    omega
  · have := els_range hb z h
    have := (good_mo hg).1
    omega
theorem flat_len {rows : List (List Int)} {m : Nat} (h : ∀ r ∈ rows, r.length = m) : nS rows = rows.length * m := by
  induction rows with
  | nil => simp [nS]
  | cons a t ih =>
    rw [nS_cons, h a (by simp), ih (fun r hr => h r (by simp [hr])), List.length_cons, Nat.succ_mul, Nat.add_comm]
theorem flat_el {P Q : Int} {rows : List (List Int)} (h : ∀ r ∈ rows, allEl P Q r = true) : allEl P Q rows.flatten = true := by
  unfold allEl at *
  rw [List.all_eq_true]
  intro z hz
  obtain ⟨r, hr, hz⟩ := List.mem_flatten.1 hz
  have := h r hr
  rw [List.all_eq_true] at this
  exact this z hz
theorem lin_facts {P Q : Int} {rows : List (List Int)} {im : List Int} (h : (St.lin rows im).ok P Q = true) :
    (rows.length ≤ 8 ∧ nS rows ≤ 64 ∧ 0 < nS rows ∧ im.length ≤ 8) ∧ (St.lin rows im).els.length ≤ 72 ∧ allEl P Q (St.lin rows im).els = true ∧ Sound P Q (St.lin rows im).parts ∧ 1 ≤ (St.lin rows im).parts.length := by
  rw [lin_ok] at h
  simp only [Bool.and_eq_true, decide_eq_true_eq] at h
  obtain ⟨hr, hl, hi⟩ := h
  obtain ⟨h1, h2, h3⟩ := rowsB_true.1 hr
  have hf := flat_len (fun r hm => (h3 r hm).1)
  have hle : nS rows ≤ 64 := by rw [hf]; exact Nat.mul_le_mul h1.2 h2.2
  have hp : 0 < nS rows := by rw [hf]; exact Nat.mul_pos (by omega) (by omega)
  refine ⟨⟨h1.2, hle, hp, by omega⟩, ?_, all_app (flat_el fun r hm => (h3 r hm).2) hi, ⟨⟨by simp [St.parts], ?_⟩, ?_⟩, by simp [St.parts]⟩
  · show (rows.flatten ++ im).length ≤ 72
    rw [List.length_append, nS_flat]; omega
  · intro p hp'
    simp only [St.parts, List.mem_singleton] at hp'
    subst hp'
    exact ⟨h1.1, h1.2, h2.1, h2.2⟩
  · intro p hp'
    simp only [St.parts, List.mem_singleton] at hp'
    subst hp'
    exact ⟨h3, hl, hi⟩
theorem quads_sound {P Q : Int} : ∀ (n : Nat) (l : List Int), l.length = n * 4 → allEl P Q l = true → ∀ p ∈ quads l, (1 ≤ p.1.length ∧ p.1.length ≤ 8 ∧ 1 ≤ wid p.1 ∧ wid p.1 ≤ 8) ∧ (∀ r ∈ p.1, r.length = wid p.1 ∧ allEl P Q r = true) ∧ p.2.length = p.1.length ∧ allEl P Q p.2 = true
  | 0, l, h, _ => by
    have : l = [] := List.length_eq_zero_iff.1 (by omega)
    subst this; intro p hp; cases hp
  | n + 1, [], h, _ => by simp at h
  | n + 1, [_], h, _ => by simp at h; omega
  | n + 1, [_, _], h, _ => by simp at h; omega
  | n + 1, [_, _, _], h, _ => by simp at h; omega
  | n + 1, a :: b :: c :: d :: r, h, he => by
    simp only [List.length_cons] at h
    simp only [allEl, List.all_cons, Bool.and_eq_true] at he
    intro p hp
    simp only [quads, List.mem_cons] at hp
    rcases hp with rfl | hp
    · refine ⟨by simp [wid], ?_, by simp, by simp [allEl, he]⟩
      intro r hr
      simp only [List.mem_cons, List.not_mem_nil, or_false] at hr
      rcases hr with rfl | rfl <;> simp [wid, allEl, he]
    · exact quads_sound n r (by omega) he.2.2.2.2 p hp
theorem cho_facts {P Q : Int} {l : List Int} {n : Nat} (hn : l.length = n * 4) (h : (St.cho l).ok P Q = true) :
    l.length ≤ 32 ∧ (St.cho l).els.length ≤ 72 ∧ allEl P Q (St.cho l).els = true ∧ Sound P Q (St.cho l).parts ∧ 1 ≤ (St.cho l).parts.length := by
  rw [cho_ok hn] at h
  simp only [Bool.and_eq_true] at h
  obtain ⟨h1, h2⟩ := h
  rw [inB_true] at h1
  have hq := quads_length n l hn
  have hs := quads_sound n l hn h2
  refine ⟨by omega, by show l.length ≤ 72; omega, h2, ⟨⟨by show (quads l).length ≤ 8; omega, fun p hp => (hs p hp).1⟩, fun p hp => (hs p hp).2⟩, by show 1 ≤ (quads l).length; omega⟩
theorem cho_pos {P Q : Int} {l : List Int} (h : (St.cho l).ok P Q = true) : 0 < l.length := by
  simp only [St.ok, choB, Bool.and_eq_true, decide_eq_true_eq] at h; omega
theorem clm_facts {P Q : Int} {ps : List LinD} {l : List Int} (h : (St.clm ps l).ok P Q = true) :
    l.length ≤ 72 ∧ 0 < l.length ∧ (St.clm ps l).els.length ≤ 72 ∧ smB (St.clm ps l).els = true ∧ Sound P Q (St.clm ps l).parts ∧ 1 ≤ (St.clm ps l).parts.length := by
  simp only [St.ok, Bool.and_eq_true, decide_eq_true_eq, List.all_eq_true] at h
  obtain ⟨h1, h2, h3, h4⟩ := h
  refine ⟨h3.2, by omega, h3.2, h4, ⟨⟨h1.2, fun p hp => ?_⟩, fun p hp => ?_⟩, h1.1⟩
  · obtain ⟨a, b, c⟩ := rowsB_true.1 (h2 p hp).1
    exact ⟨a.1, a.2, b.1, b.2⟩
  · obtain ⟨a, b, c⟩ := rowsB_true.1 (h2 p hp).1
    exact ⟨c, (h2 p hp).2⟩
theorem exs_all {Q : Int} {es : List Int} (h : exsB' Q es = true) : allIn es 0 (Q - 1) = true := by
  simp only [exsB', Bool.and_eq_true, decide_eq_true_eq] at h
  exact h.2
theorem all_ex {Q : Int} {es : List Int} (h : allIn es 0 (Q - 1) = true) : ∀ e ∈ es, 0 ≤ e ∧ e < Q := fun e he => by
  unfold allIn at h; rw [List.all_eq_true] at h; have := inB_true.1 (h e he); omega
theorem cmts_len {P Q : Int} : ∀ (ps : List LinD) (h r : List Int), (∀ p ∈ ps, p.1.length ≤ 8) → (cmts P Q ps h r).length ≤ ps.length * 8
  | [], _, _, _ => by simp [cmts]
  | _ :: _, [], _, _ => by simp [cmts]
  | p :: ps, c :: cs, r, hp => by
    have ih := cmts_len (P := P) (Q := Q) ps cs (r.drop (wid p.1)) (fun p hm => hp p (by simp [hm]))
    have h1 := hp p (by simp)
    show (List.zipWith _ (imgs P p.1 _) p.2 ++ cmts P Q ps cs _).length ≤ _
    rw [List.length_append, List.length_zipWith, imgs_length, List.length_cons]
    omega
theorem InP.c {B : Nat} {w : World} {a1 a2 a3 : Option Addr} {n1 n2 n3 c1 c2 c3 : Nat} {p : PrD} (h : InP B w (pv3 a1 n1 c1 a2 n2 c2 a3 n3 c3) p) : InI B w (.slice a1 n1 c1) p.c := by
  obtain ⟨x, y, z, e, h1, _, _⟩ := h
  simp only [Value.agg.injEq, Array.mk.injEq, List.cons.injEq, and_true] at e
  obtain ⟨rfl, rfl, rfl⟩ := e
  exact h1
theorem InP.dr {B : Nat} {w : World} {v : Value} {p : PrD} (h : InP B w v p) : InP B w.drew v p := h
theorem msV_on {P Q G : Int} {s : ByteArray} {st : St} {cm ch : List Int} (h : chB P Q G s (st.els ++ cm) 3 = true) : msV P Q G s st.els cm ch = missV P Q G s st cm ch := by
  simp [msV, missV, h]

set_option maxRecDepth 100000 in
set_option maxHeartbeats 6400000 in
theorem fulfils_any (P Q G : Int) (hg : goodB P Q G = true) {ad : Option Addr} {n cap : Nat} {ps : List LinD} (hs : Sound P Q ps) (h1p : 1 ≤ ps.length) {B : Nat} {v : Value} {p : PrD} {cs : List Int} (hcs : cmts P Q ps p.h p.r = cs) (hl1 : p.c.length ≤ 1048576) (hcl : cs.length ≤ 1152921504606846976) (hh : p.h.length = ps.length) (hr : p.r.length = nCols ps) (hhi : allIn p.h 0 (Q - 1) = true) (hri : allIn p.r 0 (Q - 1) = true) {w : World} (hL : InL w (.slice ad n cap) ps) (hP : InP B w v p) :
    Calls Try.prog 121 #[gv P Q G, .slice ad n cap, v] w (EqOut (.bool (decide (p.c = cs))) w) := by
  obtain ⟨a1, c1, a2, c2, a3, c3, rfl, h1, h2, h3⟩ := hP.parts
  have hal := ba (w.alloc (.cells #[.int .i64 P, .int .i64 Q, .int .i64 G] 32)) (.cells #[.slice a1 p.c.length c1, .slice a2 p.h.length c2, .slice a3 p.r.length c3] 36)
  have HB_0 := Lib.hid (bt (ba w (.cells #[.int .i64 P, .int .i64 Q, .int .i64 G] 32)) hal)
  have G_0 := Lib.hid (GR.below (gr_new w P Q G 32) hal)
  have hv := b3_new (w.alloc (.cells #[.int .i64 P, .int .i64 Q, .int .i64 G] 32)) (.slice a1 p.c.length c1) (.slice a2 p.h.length c2) (.slice a3 p.r.length c3) 36
  have hs1 : (w.alloc (.cells #[.int .i64 P, .int .i64 Q, .int .i64 G] 32)).heap.size = w.heap.size + 1 := by simp
  rw [hs1] at hv
  have V_0 := Lib.hid hv
  have P_0 := Lib.hid (hP.below HB_0.out)
  have L_0 := Lib.hid (hL.below HB_0.out)
  have HG := Lib.hid hg
  have HS := Lib.hid hs
  have HCSE := Lib.hid hcs
  have HCL := Lib.hid hcl
  have Q3 := Lib.hid hh
  have Q5 := Lib.hid hr
  have Q4 := Lib.hid hhi
  have Q6 := Lib.hid hri
  obtain ⟨g0, g1, g2⟩ := G_0.out
  obtain ⟨pv0, pv1, pv2, _⟩ := V_0.out
  clear hal hv h1 h2 h3 hP hs1 hL hg hs hcs hcl hh hr hhi hri
  obtain ⟨W, hW⟩ : ∃ W, (w.alloc (.cells #[.int .i64 P, .int .i64 Q, .int .i64 G] 32)).alloc (.cells #[.slice a1 p.c.length c1, .slice a2 p.h.length c2, .slice a3 p.r.length c3] 36) = W := ⟨_, rfl⟩
  rw [hW] at HB_0 G_0 V_0 P_0 L_0 g0 g1 g2 pv0 pv1 pv2
  go_enter Try.func121, Try.ntmps121
  go_wp2_with fail
  clear hW
  go_region_held3 (fun w' => (w'.cell? ⟨w.heap.size, 0, none⟩ = some (.int .i64 P) ∧ w'.cell? ⟨w.heap.size, 1, none⟩ = some (.int .i64 Q) ∧ w'.cell? ⟨w.heap.size, 2, none⟩ = some (.int .i64 G)) ∧ w'.cell? ⟨w.heap.size + 1, 0, none⟩ = some (.slice a1 p.c.length c1) ∧ w'.cell? ⟨w.heap.size + 1, 1, none⟩ = some (.slice a2 p.h.length c2) ∧ w'.cell? ⟨w.heap.size + 1, 2, none⟩ = some (.slice a3 p.r.length c3)) (first | with_reducible exact ⟨⟨s0, s1, s2⟩, t0, t1, t2⟩ | with_reducible exact ⟨⟨x0, x1, x2⟩, y0, y1, y2⟩ | exact ⟨⟨g0, g1, g2⟩, pv0, pv1, pv2⟩) ((first
    | (go_at_call 106; refine (commitsOf_any P Q G HG.out HS.out h1p Q3.out Q5.out Q4.out Q6.out L_0.out.drew P_0.out.dr).mono ?_; rw [HCSE.out]; rintro e v6 ⟨rc, rfl, ho, hb⟩; obtain ⟨ra, rcc, rfl⟩ := ho.toIn.shape; have hb6 : Below W.heap.size W v6 := bt ((Below.refl _ W).drew) hb; have HB_6 := Lib.hid (bt HB_0.out hb6); have C_6 := Lib.hid (P_0.out.c.below hb6); have HO := Lib.hid ho.toIn; obtain ⟨s0, s1, s2⟩ := G_0.out.below hb6; obtain ⟨t0, t1, t2, _⟩ := V_0.out.below hb6; have G_6 := Lib.hid (G_0.out.below hb6); have V_6 := Lib.hid (V_0.out.below hb6); clear hb hb6 ho)
    | (go_at_call 133; refine (equal_any _ _ _ _ _ _ p.c cs rfl rfl (by omega) HCL.out _ (C_6.out.ints).1 (HO.out.ints).1).mono ?_; rintro e v7 ⟨rfl, hb⟩; have HB_7 := Lib.hid (bt HB_6.out hb); obtain ⟨x0, x1, x2⟩ := G_6.out.below hb; obtain ⟨y0, y1, y2, _⟩ := V_6.out.below hb; clear hb)
    | fail))
  all_goals (
    go_wp2_with fail
    go_ret
    first | exact ⟨rfl, HB_7.out⟩ | exact ⟨rfl, HB_7.out.drew⟩)

set_option maxRecDepth 100000 in
set_option maxHeartbeats 6400000 in
theorem isProofLin_any (P Q G : Int) (hg : goodB P Q G = true) (s : ByteArray) (h40 : s.size ≤ 40) {B1 B2 : Nat} {u1 u2 : Value} {rows : List (List Int)} {im : List Int} (hok : (St.lin rows im).ok P Q = true) {B : Nat} {v : Value} {p : PrD} (hpn : p.n ≤ 1048576) {w : World} (hu1 : InS B1 w u1 rows) (hu2 : InI B2 w u2 im) (hP : InP B w v p) :
    Calls Try.prog 101 #[gv P Q G, .string s, .iface 90 (.agg #[u1, u2]), v] w (EqOut (.tuple #[.bool (vrV P Q G s (St.lin rows im) p), .bool true]) w) := by
  obtain ⟨y1, y2, rfl⟩ := hu1.shape
  obtain ⟨z1, z2, rfl⟩ := hu2.shape
  obtain ⟨a1, c1, a2, c2, a3, c3, rfl, h1, h2, h3⟩ := hP.parts
  obtain ⟨hl1, hl2, hl3⟩ : p.c.length ≤ 1048576 ∧ p.h.length ≤ 1048576 ∧ p.r.length ≤ 1048576 := by unfold PrD.n at hpn; omega
  have hm2 : ∀ (k : Nat) (W : World), (method (k + 1) 90 (.agg #[.slice y1 rows.length y2, .slice z1 im.length z2]) "loop.example/g00878/impl.parts").run Try.prog W = .ok (168, (.agg #[.slice y1 rows.length y2, .slice z1 im.length z2])) W := fun _ _ => by kernel_rfl
  have hal := ba (w.alloc (.cells #[.int .i64 P, .int .i64 Q, .int .i64 G] 32)) (.cells #[.slice a1 p.c.length c1, .slice a2 p.h.length c2, .slice a3 p.r.length c3] 36)
  have HB_0 := Lib.hid (bt (ba w (.cells #[.int .i64 P, .int .i64 Q, .int .i64 G] 32)) hal)
  have G_0 := Lib.hid (GR.below (gr_new w P Q G 32) hal)
  have hv := b3_new (w.alloc (.cells #[.int .i64 P, .int .i64 Q, .int .i64 G] 32)) (.slice a1 p.c.length c1) (.slice a2 p.h.length c2) (.slice a3 p.r.length c3) 36
  have hs1 : (w.alloc (.cells #[.int .i64 P, .int .i64 Q, .int .i64 G] 32)).heap.size = w.heap.size + 1 := by simp
  rw [hs1] at hv
  have V_0 := Lib.hid hv
  have P_0 := Lib.hid (hP.below HB_0.out)
  have M1_0 := Lib.hid (hu1.below HB_0.out)
  have M2_0 := Lib.hid (hu2.below HB_0.out)
  obtain ⟨⟨f1, f2, f3, f4⟩, f5, f6, f7, f8⟩ := lin_facts hok
  have hmo := good_mo hg
  have hs : s.size ≤ 1048576 := by omega
  have HG := Lib.hid hg
  have F6 := Lib.hid f6
  have F7 := Lib.hid f7
  have E1 := Lib.hid (show vrB P Q G s (St.lin rows im) = true by simp [vrB, hg, h40, hok])
  obtain ⟨g0, g1, g2⟩ := G_0.out
  obtain ⟨pv0, pv1, pv2, _⟩ := V_0.out
  clear hal hv h1 h2 h3 hP hs1 hok hu1 hu2
  cases hfo : formB P Q (St.lin rows im).parts p
  · have E2 := Lib.hid (show vrV P Q G s (St.lin rows im) p = false by simp [vrV, hfo])
    rw [E2.out]
    have HFO := Lib.hid hfo
    clear hg hfo f6 f7
    go_enter Try.func101, Try.ntmps101
    go_wp2_with fail
    refine (linParts_any M1_0.out M2_0.out).mono ?_
    rintro e v1 ⟨rp, rfl, hL, hb⟩
    have HB_1 := Lib.hid (bt HB_0.out hb)
    have G_1 := Lib.hid (G_0.out.below hb)
    have V_1 := Lib.hid (V_0.out.below hb)
    have P_1 := Lib.hid (P_0.out.below hb)
    have M1_1 := Lib.hid (M1_0.out.below hb)
    have M2_1 := Lib.hid (M2_0.out.below hb)
    clear hb g0 g1 g2 pv0 pv1 pv2
    obtain ⟨g0, g1, g2⟩ := G_1.out
    obtain ⟨pv0, pv1, pv2, _⟩ := V_1.out
    obtain ⟨lg, lc, rfl, _⟩ := id hL
    have L_1 := Lib.hid hL
    clear hL
    go_wp2_with fail
    refine (formLoop_any P Q G hmo F7.out.1 hpn L_1.out P_1.out).mono ?_
    rw [HFO.out]
    rintro e v2 ⟨rfl, hb⟩
    have HB_2 := Lib.hid (bt HB_1.out hb)
    have G_2 := Lib.hid (G_1.out.below hb)
    have V_2 := Lib.hid (V_1.out.below hb)
    have P_2 := Lib.hid (P_1.out.below hb)
    have M1_2 := Lib.hid (M1_1.out.below hb)
    have M2_2 := Lib.hid (M2_1.out.below hb)
    have L_2 := Lib.hid (L_1.out.below hb)
    clear hb g0 g1 g2 pv0 pv1 pv2
    obtain ⟨g0, g1, g2⟩ := G_2.out
    obtain ⟨pv0, pv1, pv2, _⟩ := V_2.out
    go_wp2
    go_ret2
    exact ⟨rfl, HB_2.out⟩
  have hfo2 := formB_true.1 hfo
  obtain ⟨q1, q2, q3, q4, q5, q6⟩ := hfo2
  have hcr : p.c.length ≤ 24 := by simp only [elsB, Bool.and_eq_true, decide_eq_true_eq] at q2; exact q2.1
  have hce : allEl P Q p.c = true := by rw [elsB_all hcr] at q2; exact q2
  have hch : chB P Q G s ((St.lin rows im).els ++ p.c) 3 = true := ch_ok hg h40 (by rw [List.length_append]; omega) (all_app f6 hce)
  have HCH := Lib.hid hch
  have HMV := Lib.hid (msV_on (ch := p.h) hch)
  have HHI := Lib.hid (all_ex (exs_all q4))
  have Q4 := Lib.hid (exs_all q4)
  have Q6 := Lib.hid (exs_all q6)
  have Q3 := Lib.hid q3
  have Q5 := Lib.hid q5
  have HFO := Lib.hid hfo
  have EV := Lib.hid (show vrV P Q G s (St.lin rows im) p = (decide (missV P Q G s (St.lin rows im) p.c p.h = 0) && decide (p.c = cmts P Q (St.lin rows im).parts p.h p.r)) by simp [vrV, E1.out, hfo])
  rw [EV.out]
  obtain ⟨mi, hmi⟩ : ∃ mi, missV P Q G s (St.lin rows im) p.c p.h = mi := ⟨_, rfl⟩
  rw [hmi] at HMV ⊢
  obtain ⟨cs, hcs⟩ : ∃ cs, cmts P Q (St.lin rows im).parts p.h p.r = cs := ⟨_, rfl⟩
  rw [hcs]
  have HCSE := Lib.hid hcs
  have HCL := Lib.hid (show cs.length ≤ 1152921504606846976 from by have h9 := cmts_len (P := P) (Q := Q) _ p.h p.r (fun q hq => (f7.1.2 q hq).2.1); rw [hcs] at h9; have := f7.1.1; omega)
  clear hg hfo f6 f7 q1 q2 q3 q4 q5 q6 hce hch hmi hcs
  by_cases hz : ¬ mi = 0
  · have hzi : (mi == 0) = false := by simp; omega
    rw [decide_eq_false hz, Bool.false_and]
    clear hz
    go_enter Try.func101, Try.ntmps101
    go_wp2_with fail
    refine (linParts_any M1_0.out M2_0.out).mono ?_
    rintro e v1 ⟨rp, rfl, hL, hb⟩
    have HB_1 := Lib.hid (bt HB_0.out hb)
    have G_1 := Lib.hid (G_0.out.below hb)
    have V_1 := Lib.hid (V_0.out.below hb)
    have P_1 := Lib.hid (P_0.out.below hb)
    have M1_1 := Lib.hid (M1_0.out.below hb)
    have M2_1 := Lib.hid (M2_0.out.below hb)
    clear hb g0 g1 g2 pv0 pv1 pv2
    obtain ⟨g0, g1, g2⟩ := G_1.out
    obtain ⟨pv0, pv1, pv2, _⟩ := V_1.out
    obtain ⟨lg, lc, rfl, _⟩ := id hL
    have L_1 := Lib.hid hL
    clear hL
    go_wp2_with fail
    refine (formLoop_any P Q G hmo F7.out.1 hpn L_1.out P_1.out).mono ?_
    rw [HFO.out]
    rintro e v2 ⟨rfl, hb⟩
    have HB_2 := Lib.hid (bt HB_1.out hb)
    have G_2 := Lib.hid (G_1.out.below hb)
    have V_2 := Lib.hid (V_1.out.below hb)
    have P_2 := Lib.hid (P_1.out.below hb)
    have M1_2 := Lib.hid (M1_1.out.below hb)
    have M2_2 := Lib.hid (M2_1.out.below hb)
    have L_2 := Lib.hid (L_1.out.below hb)
    clear hb g0 g1 g2 pv0 pv1 pv2
    obtain ⟨g0, g1, g2⟩ := G_2.out
    obtain ⟨pv0, pv1, pv2, _⟩ := V_2.out
    go_wp2_with fail
    refine (msLin_any P Q G HG.out s hs f1 (by omega) f3 f4 hpn HHI.out M1_2.out M2_2.out P_2.out).mono ?_
    rw [HMV.out, HCH.out]
    rintro e v3 ⟨rfl, hb⟩
    have HB_3 := Lib.hid (bt HB_2.out hb)
    have G_3 := Lib.hid (G_2.out.below hb)
    have V_3 := Lib.hid (V_2.out.below hb)
    have P_3 := Lib.hid (P_2.out.below hb)
    have M1_3 := Lib.hid (M1_2.out.below hb)
    have M2_3 := Lib.hid (M2_2.out.below hb)
    have L_3 := Lib.hid (L_2.out.below hb)
    clear hb g0 g1 g2 pv0 pv1 pv2
    obtain ⟨g0, g1, g2⟩ := G_3.out
    obtain ⟨pv0, pv1, pv2, _⟩ := V_3.out
    go_wp2
    go_ret2
    exact ⟨rfl, HB_3.out⟩
  have hz := Decidable.not_not.1 hz
  subst hz
  rw [decide_eq_true rfl, Bool.true_and]
  go_enter Try.func101, Try.ntmps101
  go_wp2_with fail
  refine (linParts_any M1_0.out M2_0.out).mono ?_
  rintro e v1 ⟨rp, rfl, hL, hb⟩
  have HB_1 := Lib.hid (bt HB_0.out hb)
  have G_1 := Lib.hid (G_0.out.below hb)
  have V_1 := Lib.hid (V_0.out.below hb)
  have P_1 := Lib.hid (P_0.out.below hb)
  have M1_1 := Lib.hid (M1_0.out.below hb)
  have M2_1 := Lib.hid (M2_0.out.below hb)
  clear hb g0 g1 g2 pv0 pv1 pv2
  obtain ⟨g0, g1, g2⟩ := G_1.out
  obtain ⟨pv0, pv1, pv2, _⟩ := V_1.out
  obtain ⟨lg, lc, rfl, _⟩ := id hL
  have L_1 := Lib.hid hL
  clear hL
  go_wp2_with fail
  refine (formLoop_any P Q G hmo F7.out.1 hpn L_1.out P_1.out).mono ?_
  rw [HFO.out]
  rintro e v2 ⟨rfl, hb⟩
  have HB_2 := Lib.hid (bt HB_1.out hb)
  have G_2 := Lib.hid (G_1.out.below hb)
  have V_2 := Lib.hid (V_1.out.below hb)
  have P_2 := Lib.hid (P_1.out.below hb)
  have M1_2 := Lib.hid (M1_1.out.below hb)
  have M2_2 := Lib.hid (M2_1.out.below hb)
  have L_2 := Lib.hid (L_1.out.below hb)
  clear hb g0 g1 g2 pv0 pv1 pv2
  obtain ⟨g0, g1, g2⟩ := G_2.out
  obtain ⟨pv0, pv1, pv2, _⟩ := V_2.out
  go_wp2_with fail
  refine (msLin_any P Q G HG.out s hs f1 (by omega) f3 f4 hpn HHI.out M1_2.out M2_2.out P_2.out).mono ?_
  rw [HMV.out, HCH.out]
  rintro e v3 ⟨rfl, hb⟩
  have HB_3 := Lib.hid (bt HB_2.out hb)
  have G_3 := Lib.hid (G_2.out.below hb)
  have V_3 := Lib.hid (V_2.out.below hb)
  have P_3 := Lib.hid (P_2.out.below hb)
  have M1_3 := Lib.hid (M1_2.out.below hb)
  have M2_3 := Lib.hid (M2_2.out.below hb)
  have L_3 := Lib.hid (L_2.out.below hb)
  clear hb g0 g1 g2 pv0 pv1 pv2
  obtain ⟨g0, g1, g2⟩ := G_3.out
  obtain ⟨pv0, pv1, pv2, _⟩ := V_3.out
  go_wp2_with fail
  refine (fulfils_any P Q G HG.out F7.out f8 HCSE.out (by omega) HCL.out Q3.out Q5.out Q4.out Q6.out L_3.out P_3.out).mono ?_
  rintro e v4 ⟨rfl, hb⟩
  have HB_4 := Lib.hid (bt HB_3.out hb)
  clear hb
  go_wp2
  go_ret2
  exact ⟨rfl, HB_4.out⟩

set_option maxRecDepth 100000 in
set_option maxHeartbeats 6400000 in
theorem isProofCho_any (P Q G : Int) (hg : goodB P Q G = true) (s : ByteArray) (h40 : s.size ≤ 40) {B1 : Nat} {u1 : Value} {es : List Int} (hok : (St.cho es).ok P Q = true) {B : Nat} {v : Value} {p : PrD} (hpn : p.n ≤ 1048576) {w : World} (hu1 : InE B1 w u1 es) (hP : InP B w v p) :
    Calls Try.prog 101 #[gv P Q G, .string s, .iface 96 u1, v] w (EqOut (.tuple #[.bool (vrV P Q G s (St.cho es) p), .bool true]) w) := by
  obtain ⟨y1, yn, y2, rfl, hyn, _, _⟩ := hu1.shape
  obtain ⟨a1, c1, a2, c2, a3, c3, rfl, h1, h2, h3⟩ := hP.parts
  obtain ⟨hl1, hl2, hl3⟩ : p.c.length ≤ 1048576 ∧ p.h.length ≤ 1048576 ∧ p.r.length ≤ 1048576 := by unfold PrD.n at hpn; omega
  have hm2 : ∀ (k : Nat) (W : World), (method (k + 1) 96 (.slice y1 yn y2) "loop.example/g00878/impl.parts").run Try.prog W = .ok (170, (.slice y1 yn y2)) W := fun _ _ => by kernel_rfl
  have hal := ba (w.alloc (.cells #[.int .i64 P, .int .i64 Q, .int .i64 G] 32)) (.cells #[.slice a1 p.c.length c1, .slice a2 p.h.length c2, .slice a3 p.r.length c3] 36)
  have HB_0 := Lib.hid (bt (ba w (.cells #[.int .i64 P, .int .i64 Q, .int .i64 G] 32)) hal)
  have G_0 := Lib.hid (GR.below (gr_new w P Q G 32) hal)
  have hv := b3_new (w.alloc (.cells #[.int .i64 P, .int .i64 Q, .int .i64 G] 32)) (.slice a1 p.c.length c1) (.slice a2 p.h.length c2) (.slice a3 p.r.length c3) 36
  have hs1 : (w.alloc (.cells #[.int .i64 P, .int .i64 Q, .int .i64 G] 32)).heap.size = w.heap.size + 1 := by simp
  rw [hs1] at hv
  have V_0 := Lib.hid hv
  have P_0 := Lib.hid (hP.below HB_0.out)
  have M1_0 := Lib.hid (hu1.below HB_0.out)
  have f9 := cho_pos hok
  obtain ⟨f1, f5, f6, f7, f8⟩ := cho_facts hyn hok
  have hmo := good_mo hg
  have hs : s.size ≤ 1048576 := by omega
  have HG := Lib.hid hg
  have F6 := Lib.hid f6
  have F7 := Lib.hid f7
  have E1 := Lib.hid (show vrB P Q G s (St.cho es) = true by simp [vrB, hg, h40, hok])
  obtain ⟨g0, g1, g2⟩ := G_0.out
  obtain ⟨pv0, pv1, pv2, _⟩ := V_0.out
  clear hal hv h1 h2 h3 hP hs1 hok hu1 hyn
  cases hfo : formB P Q (St.cho es).parts p
  · have E2 := Lib.hid (show vrV P Q G s (St.cho es) p = false by simp [vrV, hfo])
    rw [E2.out]
    have HFO := Lib.hid hfo
    clear hg hfo f6 f7
    go_enter Try.func101, Try.ntmps101
    go_wp2_with fail
    refine (choParts_any f1 M1_0.out).mono ?_
    rintro e v1 ⟨rp, rfl, hL, hb⟩
    have HB_1 := Lib.hid (bt HB_0.out hb)
    have G_1 := Lib.hid (G_0.out.below hb)
    have V_1 := Lib.hid (V_0.out.below hb)
    have P_1 := Lib.hid (P_0.out.below hb)
    have M1_1 := Lib.hid (M1_0.out.below hb)
    clear hb g0 g1 g2 pv0 pv1 pv2
    obtain ⟨g0, g1, g2⟩ := G_1.out
    obtain ⟨pv0, pv1, pv2, _⟩ := V_1.out
    obtain ⟨lg, lc, rfl, _⟩ := id hL
    have L_1 := Lib.hid hL
    clear hL
    go_wp2_with fail
    refine (formLoop_any P Q G hmo F7.out.1 hpn L_1.out P_1.out).mono ?_
    rw [HFO.out]
    rintro e v2 ⟨rfl, hb⟩
    have HB_2 := Lib.hid (bt HB_1.out hb)
    have G_2 := Lib.hid (G_1.out.below hb)
    have V_2 := Lib.hid (V_1.out.below hb)
    have P_2 := Lib.hid (P_1.out.below hb)
    have M1_2 := Lib.hid (M1_1.out.below hb)
    have L_2 := Lib.hid (L_1.out.below hb)
    clear hb g0 g1 g2 pv0 pv1 pv2
    obtain ⟨g0, g1, g2⟩ := G_2.out
    obtain ⟨pv0, pv1, pv2, _⟩ := V_2.out
    go_wp2
    go_ret2
    exact ⟨rfl, HB_2.out⟩
  have hfo2 := formB_true.1 hfo
  obtain ⟨q1, q2, q3, q4, q5, q6⟩ := hfo2
  have hcr : p.c.length ≤ 24 := by simp only [elsB, Bool.and_eq_true, decide_eq_true_eq] at q2; exact q2.1
  have hce : allEl P Q p.c = true := by rw [elsB_all hcr] at q2; exact q2
  have hch : chB P Q G s ((St.cho es).els ++ p.c) 3 = true := ch_ok hg h40 (by rw [List.length_append]; omega) (all_app f6 hce)
  have HCH := Lib.hid hch
  have HMV := Lib.hid (msV_on (ch := p.h) hch)
  have HHI := Lib.hid (all_ex (exs_all q4))
  have Q4 := Lib.hid (exs_all q4)
  have Q6 := Lib.hid (exs_all q6)
  have Q3 := Lib.hid q3
  have Q5 := Lib.hid q5
  have HFO := Lib.hid hfo
  have EV := Lib.hid (show vrV P Q G s (St.cho es) p = (decide (missV P Q G s (St.cho es) p.c p.h = 0) && decide (p.c = cmts P Q (St.cho es).parts p.h p.r)) by simp [vrV, E1.out, hfo])
  rw [EV.out]
  obtain ⟨mi, hmi⟩ : ∃ mi, missV P Q G s (St.cho es) p.c p.h = mi := ⟨_, rfl⟩
  rw [hmi] at HMV ⊢
  obtain ⟨cs, hcs⟩ : ∃ cs, cmts P Q (St.cho es).parts p.h p.r = cs := ⟨_, rfl⟩
  rw [hcs]
  have HCSE := Lib.hid hcs
  have HCL := Lib.hid (show cs.length ≤ 1152921504606846976 from by have h9 := cmts_len (P := P) (Q := Q) _ p.h p.r (fun q hq => (f7.1.2 q hq).2.1); rw [hcs] at h9; have := f7.1.1; omega)
  clear hg hfo f6 f7 q1 q2 q3 q4 q5 q6 hce hch hmi hcs
  by_cases hz : ¬ mi = 0
  · have hzi : (mi == 0) = false := by simp; omega
    rw [decide_eq_false hz, Bool.false_and]
    clear hz
    go_enter Try.func101, Try.ntmps101
    go_wp2_with fail
    refine (choParts_any f1 M1_0.out).mono ?_
    rintro e v1 ⟨rp, rfl, hL, hb⟩
    have HB_1 := Lib.hid (bt HB_0.out hb)
    have G_1 := Lib.hid (G_0.out.below hb)
    have V_1 := Lib.hid (V_0.out.below hb)
    have P_1 := Lib.hid (P_0.out.below hb)
    have M1_1 := Lib.hid (M1_0.out.below hb)
    clear hb g0 g1 g2 pv0 pv1 pv2
    obtain ⟨g0, g1, g2⟩ := G_1.out
    obtain ⟨pv0, pv1, pv2, _⟩ := V_1.out
    obtain ⟨lg, lc, rfl, _⟩ := id hL
    have L_1 := Lib.hid hL
    clear hL
    go_wp2_with fail
    refine (formLoop_any P Q G hmo F7.out.1 hpn L_1.out P_1.out).mono ?_
    rw [HFO.out]
    rintro e v2 ⟨rfl, hb⟩
    have HB_2 := Lib.hid (bt HB_1.out hb)
    have G_2 := Lib.hid (G_1.out.below hb)
    have V_2 := Lib.hid (V_1.out.below hb)
    have P_2 := Lib.hid (P_1.out.below hb)
    have M1_2 := Lib.hid (M1_1.out.below hb)
    have L_2 := Lib.hid (L_1.out.below hb)
    clear hb g0 g1 g2 pv0 pv1 pv2
    obtain ⟨g0, g1, g2⟩ := G_2.out
    obtain ⟨pv0, pv1, pv2, _⟩ := V_2.out
    go_wp2_with fail
    refine (msCho_any P Q G HG.out s hs f1 f9 hpn HHI.out M1_2.out P_2.out).mono ?_
    rw [HMV.out, HCH.out]
    rintro e v3 ⟨rfl, hb⟩
    have HB_3 := Lib.hid (bt HB_2.out hb)
    have G_3 := Lib.hid (G_2.out.below hb)
    have V_3 := Lib.hid (V_2.out.below hb)
    have P_3 := Lib.hid (P_2.out.below hb)
    have M1_3 := Lib.hid (M1_2.out.below hb)
    have L_3 := Lib.hid (L_2.out.below hb)
    clear hb g0 g1 g2 pv0 pv1 pv2
    obtain ⟨g0, g1, g2⟩ := G_3.out
    obtain ⟨pv0, pv1, pv2, _⟩ := V_3.out
    go_wp2
    go_ret2
    exact ⟨rfl, HB_3.out⟩
  have hz := Decidable.not_not.1 hz
  subst hz
  rw [decide_eq_true rfl, Bool.true_and]
  go_enter Try.func101, Try.ntmps101
  go_wp2_with fail
  refine (choParts_any f1 M1_0.out).mono ?_
  rintro e v1 ⟨rp, rfl, hL, hb⟩
  have HB_1 := Lib.hid (bt HB_0.out hb)
  have G_1 := Lib.hid (G_0.out.below hb)
  have V_1 := Lib.hid (V_0.out.below hb)
  have P_1 := Lib.hid (P_0.out.below hb)
  have M1_1 := Lib.hid (M1_0.out.below hb)
  clear hb g0 g1 g2 pv0 pv1 pv2
  obtain ⟨g0, g1, g2⟩ := G_1.out
  obtain ⟨pv0, pv1, pv2, _⟩ := V_1.out
  obtain ⟨lg, lc, rfl, _⟩ := id hL
  have L_1 := Lib.hid hL
  clear hL
  go_wp2_with fail
  refine (formLoop_any P Q G hmo F7.out.1 hpn L_1.out P_1.out).mono ?_
  rw [HFO.out]
  rintro e v2 ⟨rfl, hb⟩
  have HB_2 := Lib.hid (bt HB_1.out hb)
  have G_2 := Lib.hid (G_1.out.below hb)
  have V_2 := Lib.hid (V_1.out.below hb)
  have P_2 := Lib.hid (P_1.out.below hb)
  have M1_2 := Lib.hid (M1_1.out.below hb)
  have L_2 := Lib.hid (L_1.out.below hb)
  clear hb g0 g1 g2 pv0 pv1 pv2
  obtain ⟨g0, g1, g2⟩ := G_2.out
  obtain ⟨pv0, pv1, pv2, _⟩ := V_2.out
  go_wp2_with fail
  refine (msCho_any P Q G HG.out s hs f1 f9 hpn HHI.out M1_2.out P_2.out).mono ?_
  rw [HMV.out, HCH.out]
  rintro e v3 ⟨rfl, hb⟩
  have HB_3 := Lib.hid (bt HB_2.out hb)
  have G_3 := Lib.hid (G_2.out.below hb)
  have V_3 := Lib.hid (V_2.out.below hb)
  have P_3 := Lib.hid (P_2.out.below hb)
  have M1_3 := Lib.hid (M1_2.out.below hb)
  have L_3 := Lib.hid (L_2.out.below hb)
  clear hb g0 g1 g2 pv0 pv1 pv2
  obtain ⟨g0, g1, g2⟩ := G_3.out
  obtain ⟨pv0, pv1, pv2, _⟩ := V_3.out
  go_wp2_with fail
  refine (fulfils_any P Q G HG.out F7.out f8 HCSE.out (by omega) HCL.out Q3.out Q5.out Q4.out Q6.out L_3.out P_3.out).mono ?_
  rintro e v4 ⟨rfl, hb⟩
  have HB_4 := Lib.hid (bt HB_3.out hb)
  clear hb
  go_wp2
  go_ret2
  exact ⟨rfl, HB_4.out⟩

set_option maxRecDepth 100000 in
set_option maxHeartbeats 6400000 in
theorem verifyLin_any (P Q G : Int) (s : ByteArray) (hs : s.size ≤ 1048576) {B1 B2 : Nat} {u1 u2 : Value} {rows : List (List Int)} {im : List Int} (hl : rows.length ≤ 1048576) (hr : ∀ z ∈ rows, z.length ≤ 17592186044416) (hi8 : im.length ≤ 17592186044416) {B : Nat} {v : Value} {p : PrD} (hpn : p.n ≤ 1048576) {w : World} (hu1 : InS B1 w u1 rows) (hu2 : InI B2 w u2 im) (hP : InP B w v p) :
    Calls Try.prog 64 #[gv P Q G, .string s, .iface 90 (.agg #[u1, u2]), v] w (EqOut (.tuple #[.bool (vrV P Q G s (St.lin rows im) p), .bool (vrB P Q G s (St.lin rows im))]) w) := by
  obtain ⟨y1, y2, rfl⟩ := hu1.shape
  obtain ⟨z1, z2, rfl⟩ := hu2.shape
  obtain ⟨a1, c1, a2, c2, a3, c3, rfl, h1, h2, h3⟩ := hP.parts
  obtain ⟨hl1, hl2, hl3⟩ : p.c.length ≤ 1048576 ∧ p.h.length ≤ 1048576 ∧ p.r.length ≤ 1048576 := by unfold PrD.n at hpn; omega
  have hal := ba (w.alloc (.cells #[.int .i64 P, .int .i64 Q, .int .i64 G] 32)) (.cells #[.slice a1 p.c.length c1, .slice a2 p.h.length c2, .slice a3 p.r.length c3] 36)
  have HB_0 := Lib.hid (bt (ba w (.cells #[.int .i64 P, .int .i64 Q, .int .i64 G] 32)) hal)
  have G_0 := Lib.hid (GR.below (gr_new w P Q G 32) hal)
  have hv := b3_new (w.alloc (.cells #[.int .i64 P, .int .i64 Q, .int .i64 G] 32)) (.slice a1 p.c.length c1) (.slice a2 p.h.length c2) (.slice a3 p.r.length c3) 36
  have hs1 : (w.alloc (.cells #[.int .i64 P, .int .i64 Q, .int .i64 G] 32)).heap.size = w.heap.size + 1 := by simp
  rw [hs1] at hv
  have V_0 := Lib.hid hv
  have P_0 := Lib.hid (hP.below HB_0.out)
  have M1_0 := Lib.hid (hu1.below HB_0.out)
  have M2_0 := Lib.hid (hu2.below HB_0.out)
  have HR := Lib.hid hr
  obtain ⟨g0, g1, g2⟩ := G_0.out
  obtain ⟨pv0, pv1, pv2, _⟩ := V_0.out
  clear hal hv h1 h2 h3 hP hs1 hu1 hu2
  cases hg : goodB P Q G
  · have E1 := Lib.hid (show vrB P Q G s (St.lin rows im) = false by simp [vrB, hg])
    have E2 := Lib.hid (show vrV P Q G s (St.lin rows im) p = false by simp [vrV, vrB, hg])
    rw [E1.out, E2.out]
    have HG := Lib.hid hg
    clear hg
    go_enter Try.func64, Try.ntmps64
    go_wp2_with fail
    refine (isValidGroup_any P Q G _).mono ?_
    rw [HG.out]
    rintro e v1 ⟨rfl, hb⟩
    have HB_1 := Lib.hid (bt HB_0.out hb)
    have G_1 := Lib.hid (G_0.out.below hb)
    have V_1 := Lib.hid (V_0.out.below hb)
    have P_1 := Lib.hid (P_0.out.below hb)
    have M1_1 := Lib.hid (M1_0.out.below hb)
    have M2_1 := Lib.hid (M2_0.out.below hb)
    clear hb g0 g1 g2 pv0 pv1 pv2
    obtain ⟨g0, g1, g2⟩ := G_1.out
    obtain ⟨pv0, pv1, pv2, _⟩ := V_1.out
    go_wp2
    go_ret2
    exact ⟨rfl, HB_1.out⟩
  have hmo := good_mo hg
  have HG := Lib.hid hg
  by_cases h40 : ¬ s.size ≤ 40
  · have E1 := Lib.hid (show vrB P Q G s (St.lin rows im) = false by simp [vrB, h40])
    have E2 := Lib.hid (show vrV P Q G s (St.lin rows im) p = false by simp [vrV, vrB, h40])
    rw [E1.out, E2.out]
    have hsi : (40 : Int) < (s.size : Int) := by omega
    clear hg h40
    go_enter Try.func64, Try.ntmps64
    go_wp2_with fail
    refine (isValidGroup_any P Q G _).mono ?_
    rw [HG.out]
    rintro e v1 ⟨rfl, hb⟩
    have HB_1 := Lib.hid (bt HB_0.out hb)
    have G_1 := Lib.hid (G_0.out.below hb)
    have V_1 := Lib.hid (V_0.out.below hb)
    have P_1 := Lib.hid (P_0.out.below hb)
    have M1_1 := Lib.hid (M1_0.out.below hb)
    have M2_1 := Lib.hid (M2_0.out.below hb)
    clear hb g0 g1 g2 pv0 pv1 pv2
    obtain ⟨g0, g1, g2⟩ := G_1.out
    obtain ⟨pv0, pv1, pv2, _⟩ := V_1.out
    go_wp2
    go_ret2
    exact ⟨rfl, HB_1.out⟩
  have h40 := Decidable.not_not.1 h40
  have hsi : (s.size : Int) ≤ 40 := by omega
  cases hok : (St.lin rows im).ok P Q
  · have E1 := Lib.hid (show vrB P Q G s (St.lin rows im) = false by simp [vrB, hok])
    have E2 := Lib.hid (show vrV P Q G s (St.lin rows im) p = false by simp [vrV, vrB, hok])
    rw [E1.out, E2.out]
    have HK := Lib.hid hok
    clear hg hok
    go_enter Try.func64, Try.ntmps64
    go_wp2_with fail
    refine (isValidGroup_any P Q G _).mono ?_
    rw [HG.out]
    rintro e v1 ⟨rfl, hb⟩
    have HB_1 := Lib.hid (bt HB_0.out hb)
    have G_1 := Lib.hid (G_0.out.below hb)
    have V_1 := Lib.hid (V_0.out.below hb)
    have P_1 := Lib.hid (P_0.out.below hb)
    have M1_1 := Lib.hid (M1_0.out.below hb)
    have M2_1 := Lib.hid (M2_0.out.below hb)
    clear hb g0 g1 g2 pv0 pv1 pv2
    obtain ⟨g0, g1, g2⟩ := G_1.out
    obtain ⟨pv0, pv1, pv2, _⟩ := V_1.out
    go_wp2_with fail
    refine (hasLinear_any P Q G hmo hl HR.out hi8 M1_1.out M2_1.out).mono ?_
    rw [HK.out]
    rintro e v2 ⟨rfl, hb⟩
    have HB_2 := Lib.hid (bt HB_1.out hb)
    have G_2 := Lib.hid (G_1.out.below hb)
    have V_2 := Lib.hid (V_1.out.below hb)
    have P_2 := Lib.hid (P_1.out.below hb)
    have M1_2 := Lib.hid (M1_1.out.below hb)
    have M2_2 := Lib.hid (M2_1.out.below hb)
    clear hb g0 g1 g2 pv0 pv1 pv2
    obtain ⟨g0, g1, g2⟩ := G_2.out
    obtain ⟨pv0, pv1, pv2, _⟩ := V_2.out
    go_wp2
    go_ret2
    exact ⟨rfl, HB_2.out⟩
  have E1 := Lib.hid (show vrB P Q G s (St.lin rows im) = true by simp [vrB, hg, h40, hok])
  rw [E1.out]
  have HK := Lib.hid hok
  clear hg hok
  go_enter Try.func64, Try.ntmps64
  go_wp2_with fail
  refine (isValidGroup_any P Q G _).mono ?_
  rw [HG.out]
  rintro e v1 ⟨rfl, hb⟩
  have HB_1 := Lib.hid (bt HB_0.out hb)
  have G_1 := Lib.hid (G_0.out.below hb)
  have V_1 := Lib.hid (V_0.out.below hb)
  have P_1 := Lib.hid (P_0.out.below hb)
  have M1_1 := Lib.hid (M1_0.out.below hb)
  have M2_1 := Lib.hid (M2_0.out.below hb)
  clear hb g0 g1 g2 pv0 pv1 pv2
  obtain ⟨g0, g1, g2⟩ := G_1.out
  obtain ⟨pv0, pv1, pv2, _⟩ := V_1.out
  go_wp2_with fail
  refine (hasLinear_any P Q G hmo hl HR.out hi8 M1_1.out M2_1.out).mono ?_
  rw [HK.out]
  rintro e v2 ⟨rfl, hb⟩
  have HB_2 := Lib.hid (bt HB_1.out hb)
  have G_2 := Lib.hid (G_1.out.below hb)
  have V_2 := Lib.hid (V_1.out.below hb)
  have P_2 := Lib.hid (P_1.out.below hb)
  have M1_2 := Lib.hid (M1_1.out.below hb)
  have M2_2 := Lib.hid (M2_1.out.below hb)
  clear hb g0 g1 g2 pv0 pv1 pv2
  obtain ⟨g0, g1, g2⟩ := G_2.out
  obtain ⟨pv0, pv1, pv2, _⟩ := V_2.out
  go_wp2_with fail
  refine (isProofLin_any P Q G HG.out s h40 HK.out hpn M1_2.out M2_2.out P_2.out).mono ?_
  rintro e v3 ⟨rfl, hb⟩
  have HB_3 := Lib.hid (bt HB_2.out hb)
  clear hb
  go_wp2
  go_ret2
  exact ⟨rfl, HB_3.out⟩

set_option maxRecDepth 100000 in
set_option maxHeartbeats 6400000 in
theorem verifyCho_any (P Q G : Int) (s : ByteArray) (hs : s.size ≤ 1048576) {B1 : Nat} {u1 : Value} {es : List Int} (hl : es.length ≤ 17592186044416) {B : Nat} {v : Value} {p : PrD} (hpn : p.n ≤ 1048576) {w : World} (hu1 : InE B1 w u1 es) (hP : InP B w v p) :
    Calls Try.prog 64 #[gv P Q G, .string s, .iface 96 u1, v] w (EqOut (.tuple #[.bool (vrV P Q G s (St.cho es) p), .bool (vrB P Q G s (St.cho es))]) w) := by
  obtain ⟨y1, yn, y2, rfl, hyn, _, _⟩ := hu1.shape
  obtain ⟨a1, c1, a2, c2, a3, c3, rfl, h1, h2, h3⟩ := hP.parts
  obtain ⟨hl1, hl2, hl3⟩ : p.c.length ≤ 1048576 ∧ p.h.length ≤ 1048576 ∧ p.r.length ≤ 1048576 := by unfold PrD.n at hpn; omega
  have hal := ba (w.alloc (.cells #[.int .i64 P, .int .i64 Q, .int .i64 G] 32)) (.cells #[.slice a1 p.c.length c1, .slice a2 p.h.length c2, .slice a3 p.r.length c3] 36)
  have HB_0 := Lib.hid (bt (ba w (.cells #[.int .i64 P, .int .i64 Q, .int .i64 G] 32)) hal)
  have G_0 := Lib.hid (GR.below (gr_new w P Q G 32) hal)
  have hv := b3_new (w.alloc (.cells #[.int .i64 P, .int .i64 Q, .int .i64 G] 32)) (.slice a1 p.c.length c1) (.slice a2 p.h.length c2) (.slice a3 p.r.length c3) 36
  have hs1 : (w.alloc (.cells #[.int .i64 P, .int .i64 Q, .int .i64 G] 32)).heap.size = w.heap.size + 1 := by simp
  rw [hs1] at hv
  have V_0 := Lib.hid hv
  have P_0 := Lib.hid (hP.below HB_0.out)
  have M1_0 := Lib.hid (hu1.below HB_0.out)
  have HR := Lib.hid hl
  obtain ⟨g0, g1, g2⟩ := G_0.out
  obtain ⟨pv0, pv1, pv2, _⟩ := V_0.out
  clear hal hv h1 h2 h3 hP hs1 hu1 hyn
  cases hg : goodB P Q G
  · have E1 := Lib.hid (show vrB P Q G s (St.cho es) = false by simp [vrB, hg])
    have E2 := Lib.hid (show vrV P Q G s (St.cho es) p = false by simp [vrV, vrB, hg])
    rw [E1.out, E2.out]
    have HG := Lib.hid hg
    clear hg
    go_enter Try.func64, Try.ntmps64
    go_wp2_with fail
    refine (isValidGroup_any P Q G _).mono ?_
    rw [HG.out]
    rintro e v1 ⟨rfl, hb⟩
    have HB_1 := Lib.hid (bt HB_0.out hb)
    have G_1 := Lib.hid (G_0.out.below hb)
    have V_1 := Lib.hid (V_0.out.below hb)
    have P_1 := Lib.hid (P_0.out.below hb)
    have M1_1 := Lib.hid (M1_0.out.below hb)
    clear hb g0 g1 g2 pv0 pv1 pv2
    obtain ⟨g0, g1, g2⟩ := G_1.out
    obtain ⟨pv0, pv1, pv2, _⟩ := V_1.out
    go_wp2
    go_ret2
    exact ⟨rfl, HB_1.out⟩
  have hmo := good_mo hg
  have HG := Lib.hid hg
  by_cases h40 : ¬ s.size ≤ 40
  · have E1 := Lib.hid (show vrB P Q G s (St.cho es) = false by simp [vrB, h40])
    have E2 := Lib.hid (show vrV P Q G s (St.cho es) p = false by simp [vrV, vrB, h40])
    rw [E1.out, E2.out]
    have hsi : (40 : Int) < (s.size : Int) := by omega
    clear hg h40
    go_enter Try.func64, Try.ntmps64
    go_wp2_with fail
    refine (isValidGroup_any P Q G _).mono ?_
    rw [HG.out]
    rintro e v1 ⟨rfl, hb⟩
    have HB_1 := Lib.hid (bt HB_0.out hb)
    have G_1 := Lib.hid (G_0.out.below hb)
    have V_1 := Lib.hid (V_0.out.below hb)
    have P_1 := Lib.hid (P_0.out.below hb)
    have M1_1 := Lib.hid (M1_0.out.below hb)
    clear hb g0 g1 g2 pv0 pv1 pv2
    obtain ⟨g0, g1, g2⟩ := G_1.out
    obtain ⟨pv0, pv1, pv2, _⟩ := V_1.out
    go_wp2
    go_ret2
    exact ⟨rfl, HB_1.out⟩
  have h40 := Decidable.not_not.1 h40
  have hsi : (s.size : Int) ≤ 40 := by omega
  cases hok : (St.cho es).ok P Q
  · have E1 := Lib.hid (show vrB P Q G s (St.cho es) = false by simp [vrB, hok])
    have E2 := Lib.hid (show vrV P Q G s (St.cho es) p = false by simp [vrV, vrB, hok])
    rw [E1.out, E2.out]
    have HK := Lib.hid hok
    clear hg hok
    go_enter Try.func64, Try.ntmps64
    go_wp2_with fail
    refine (isValidGroup_any P Q G _).mono ?_
    rw [HG.out]
    rintro e v1 ⟨rfl, hb⟩
    have HB_1 := Lib.hid (bt HB_0.out hb)
    have G_1 := Lib.hid (G_0.out.below hb)
    have V_1 := Lib.hid (V_0.out.below hb)
    have P_1 := Lib.hid (P_0.out.below hb)
    have M1_1 := Lib.hid (M1_0.out.below hb)
    clear hb g0 g1 g2 pv0 pv1 pv2
    obtain ⟨g0, g1, g2⟩ := G_1.out
    obtain ⟨pv0, pv1, pv2, _⟩ := V_1.out
    go_wp2_with fail
    refine (hasChoice_any P Q G hmo hl M1_1.out).mono ?_
    rw [HK.out]
    rintro e v2 ⟨rfl, hb⟩
    have HB_2 := Lib.hid (bt HB_1.out hb)
    have G_2 := Lib.hid (G_1.out.below hb)
    have V_2 := Lib.hid (V_1.out.below hb)
    have P_2 := Lib.hid (P_1.out.below hb)
    have M1_2 := Lib.hid (M1_1.out.below hb)
    clear hb g0 g1 g2 pv0 pv1 pv2
    obtain ⟨g0, g1, g2⟩ := G_2.out
    obtain ⟨pv0, pv1, pv2, _⟩ := V_2.out
    go_wp2
    go_ret2
    exact ⟨rfl, HB_2.out⟩
  have E1 := Lib.hid (show vrB P Q G s (St.cho es) = true by simp [vrB, hg, h40, hok])
  rw [E1.out]
  have HK := Lib.hid hok
  clear hg hok
  go_enter Try.func64, Try.ntmps64
  go_wp2_with fail
  refine (isValidGroup_any P Q G _).mono ?_
  rw [HG.out]
  rintro e v1 ⟨rfl, hb⟩
  have HB_1 := Lib.hid (bt HB_0.out hb)
  have G_1 := Lib.hid (G_0.out.below hb)
  have V_1 := Lib.hid (V_0.out.below hb)
  have P_1 := Lib.hid (P_0.out.below hb)
  have M1_1 := Lib.hid (M1_0.out.below hb)
  clear hb g0 g1 g2 pv0 pv1 pv2
  obtain ⟨g0, g1, g2⟩ := G_1.out
  obtain ⟨pv0, pv1, pv2, _⟩ := V_1.out
  go_wp2_with fail
  refine (hasChoice_any P Q G hmo hl M1_1.out).mono ?_
  rw [HK.out]
  rintro e v2 ⟨rfl, hb⟩
  have HB_2 := Lib.hid (bt HB_1.out hb)
  have G_2 := Lib.hid (G_1.out.below hb)
  have V_2 := Lib.hid (V_1.out.below hb)
  have P_2 := Lib.hid (P_1.out.below hb)
  have M1_2 := Lib.hid (M1_1.out.below hb)
  clear hb g0 g1 g2 pv0 pv1 pv2
  obtain ⟨g0, g1, g2⟩ := G_2.out
  obtain ⟨pv0, pv1, pv2, _⟩ := V_2.out
  go_wp2_with fail
  refine (isProofCho_any P Q G HG.out s h40 HK.out hpn M1_2.out P_2.out).mono ?_
  rintro e v3 ⟨rfl, hb⟩
  have HB_3 := Lib.hid (bt HB_2.out hb)
  clear hb
  go_wp2
  go_ret2
  exact ⟨rfl, HB_3.out⟩

end Go.Proofs.Ytdaekpfngphefaa

/- Sigma proofs: rows and images of the reference; ImagesOf and IsTrueEqual of both. -/
namespace Go.Proofs.Ytdaekpfngphefaa
open Go.RowKit
set_option linter.unusedVariables false
set_option linter.unusedSimpArgs false

theorem rowB_in2 {P Q : Int} {n : Nat} {r : List Int} (h : r.length = n) : rowB P Q n r = allEl P Q r := by simp [rowB, h]
def C1 (w : World) (b o : Nat) (v : Value) : Prop := w.cell? ⟨b, o, none⟩ = some v
theorem C1.below {w w' : World} {b o : Nat} {v : Value} (h : C1 w b o v) (hb : Below w.heap.size w w') : C1 w' b o v := by
  unfold C1 at *
  rw [hb.cell (p := ⟨b, o, none⟩) (World.block_lt_of_cell? w _ h)]; exact h
theorem row_zero {B : Nat} {w : World} {ad : Option Addr} {n cap : Nat} {z : List Int} {rest : List (List Int)} (h : InS B w (.slice ad n cap) (z :: rest)) : ∃ b off a c, ad = some ⟨b, off, none⟩ ∧ C1 w b off (.slice a z.length c) := by
  obtain ⟨b, off, a, c, z', h1, _, h2, _, h3⟩ := h.at (k := 0) (by simp)
  rw [Nat.add_zero] at h2
  simp only [List.drop_zero, List.cons.injEq] at h3
  rw [← h3.1] at h2
  exact ⟨b, off, a, c, h1, h2⟩
theorem wid_cons (z : List Int) (rest : List (List Int)) : wid (z :: rest) = z.length := rfl
set_option maxRecDepth 100000 in
set_option maxHeartbeats 3200000 in
theorem sBases_any (P Q G : Int) (hm : Mo P Q) {B : Nat} {v : Value} {rows : List (List Int)} (hl : rows.length ≤ 1048576) (hr : ∀ z ∈ rows, z.length ≤ 17592186044416) {w : World} (hz : InS B w v rows) :
    Calls Try.prog 61 #[gv P Q G, v] w fun e w' => e = .returned (.bool (rowsB P Q rows)) ∧ Below w.heap.size w w' := by
  obtain ⟨ad, cap, rfl⟩ := hz.shape
  have hG := gr_new w P Q G 32
  have hB := ba w (.cells #[.int .i64 P, .int .i64 Q, .int .i64 G] 32)
  have G_0 := Lib.hid hG
  have HB_0 := Lib.hid hB
  have Z_0 := Lib.hid (hz.below hB)
  have HR := Lib.hid hr
  generalize hn : rows.length = n at hz Z_0 hl
  have HN := Lib.hid hn
  clear hG hB hz hr
  cases h1 : inB (n : Int) 1 8
  · rw [rowsB_off1 (by rw [hn]; exact h1)]
    have H1 := Lib.hid h1
    clear h1 hn
    go_enter Try.func61, Try.ntmps61
    go_wp2_with fail
    refine (l1In_any _ 1 8 _).mono ?_
    rw [H1.out]
    rintro e w' ⟨rfl, rfl⟩
    go_wp2
    go_ret
    exact ⟨rfl, HB_0.out⟩
  have hn1 : 1 ≤ n ∧ n ≤ 8 := by rw [inB_true] at h1; omega
  obtain ⟨b0, off0, a0, c0, z0, rfl, hb0, hc0, hin0, hd0⟩ := Z_0.out.at (k := 0) (by omega)
  rw [Nat.add_zero] at hc0
  have hw0 := wid_head hd0
  have hz0l : z0.length ≤ 17592186044416 := HR.out z0 (List.mem_of_mem_drop (i := 0) (by rw [hd0]; simp))
  have H1 := Lib.hid h1
  cases h2 : inB (z0.length : Int) 1 8
  · rw [rowsB_off2 (by rw [hw0]; exact h2)]
    have H2 := Lib.hid h2
    clear h1 h2 hn hd0 hw0
    go_enter Try.func61, Try.ntmps61
    go_wp2_with fail
    refine (l1In_any _ 1 8 _).mono ?_
    rw [H1.out]
    rintro e w' ⟨rfl, rfl⟩
    go_wp2_with fail
    refine (l1In_any _ 1 8 _).mono ?_
    rw [H2.out]
    rintro e w' ⟨rfl, rfl⟩
    go_wp2
    go_ret
    exact ⟨rfl, HB_0.out⟩
  have hw8 : z0.length ≤ 8 := by rw [inB_true] at h2; omega
  have HE := Lib.hid (rowsB_on (P := P) (Q := Q) (rows := rows) (by rw [hn]; exact h1) (by rw [hw0]; exact h2))
  have HW := Lib.hid hw0
  rw [HE.out, HW.out]
  have H2 := Lib.hid h2
  have hc0' : ∀ wr : World, Below w.heap.size w wr → True := fun _ _ => trivial
  clear h1 h2 hn hd0 hw0 hc0'
  go_enter Try.func61, Try.ntmps61
  go_wp2_with fail
  refine (l1In_any _ 1 8 _).mono ?_
  rw [H1.out]
  rintro e w' ⟨rfl, rfl⟩
  go_wp2_with fail
  refine (l1In_any _ 1 8 _).mono ?_
  rw [H2.out]
  rintro e w' ⟨rfl, rfl⟩
  go_wp2
  clear hc0 hin0
  go_loopw [6, 21] (fun _ K wr => ∃ k : Nat, k ≤ n ∧ K = .int .i64 k ∧ (rows.all fun r => rowB P Q z0.length r) = ((rows.drop k).all fun r => rowB P Q z0.length r) ∧ Below (w.alloc (.cells #[.int .i64 P, .int .i64 Q, .int .i64 G] 32)).heap.size (w.alloc (.cells #[.int .i64 P, .int .i64 Q, .int .i64 G] 32)) wr) (fun _ K _ => n - (intOf K).toNat)
  case atStart => exact ⟨0, Nat.zero_le _, rfl, rfl, Below.refl _ _⟩
  case round =>
    obtain ⟨k, hk, rfl, he, hbel⟩ := hrel
    have HB := Lib.hid (bt HB_0.out hbel)
    have HBk := Lib.hid hbel
    have G_1 := Lib.hid (G_0.out.below hbel)
    have Z_1 := Lib.hid (Z_0.out.below hbel)
    obtain ⟨g0, g1, g2⟩ := G_1.out
    clear hbel
    by_cases hkn : k < n
    · obtain ⟨b', off', a, c, z, hba, hb, hc, hin, hd⟩ := Z_1.out.at (k := k) (by have := HN.out; omega)
      simp only [Option.some.injEq, Addr.mk.injEq, and_true] at hba
      obtain ⟨rfl, rfl⟩ := hba
      obtain ⟨b'', off'', a1, c1, z1, hba, _, hc1, hin1, hd1⟩ := Z_1.out.at (k := 0) (by have := HN.out; omega)
      simp only [Option.some.injEq, Addr.mk.injEq, and_true] at hba
      obtain ⟨rfl, rfl⟩ := hba
      rw [Nat.add_zero] at hc1
      have hz1 : z1.length = z0.length := by rw [← wid_head hd1, HW.out]
      have HS := Lib.hid (drop_all_step (p := fun r => rowB P Q z0.length r) hd he)
      have hzl : z.length ≤ 17592186044416 := HR.out z (List.mem_of_mem_drop (i := k) (by rw [hd]; simp))
      have HI := Lib.hid (hin.ints).1
      clear he hd hd1 hin hin1
      rw [hz1] at hc1
      clear hz1
      by_cases hzn : z.length = z0.length
      · have e1 := rowB_in2 (P := P) (Q := Q) hzn
        have hzi : ((z.length : Int) != (z0.length : Int)) = false := by simp [hzn]
        clear hzn
        cases hi' : allEl P Q z
        · have HP := Lib.hid (HS.out.2 (e1.trans hi'))
          have HI' := Lib.hid hi'
          clear hi' e1
          go_wp2_with fail
          refine (gIs_any P Q G hm _ _ _ z rfl (by omega) _ HI.out).mono ?_
          rw [HI'.out]
          rintro e w1 ⟨rfl, hb1⟩
          have HB1 := Lib.hid (bt HB.out hb1)
          clear hb1
          go_wp2
          go_ret
          exact ⟨by rw [HP.out]; rfl, HB1.out⟩
        · have HP := Lib.hid (HS.out.1 (e1.trans hi'))
          have HI' := Lib.hid hi'
          clear hi' e1
          go_wp2_with fail
          refine (gIs_any P Q G hm _ _ _ z rfl (by omega) _ HI.out).mono ?_
          rw [HI'.out]
          rintro e w1 ⟨rfl, hb1⟩
          have HB1 := Lib.hid (bt HBk.out hb1)
          clear hb1
          go_wp2
          go_roundw
          case rel => exact ⟨k + 1, by omega, by go_num, HP.out, HB1.out⟩
          case measure => simp only [intOf]; omega
      · have HP := Lib.hid (HS.out.2 (rowB_out hzn))
        have hzi : ((z.length : Int) != (z0.length : Int)) = true := by simp; omega
        clear HS hzn
        go_wp2
        go_ret
        exact ⟨by rw [HP.out]; rfl, HB.out⟩
    · have HE' := Lib.hid he
      clear he
      go_wp2
      go_ret
      refine ⟨?_, HB.out⟩
      rw [HE'.out, List.drop_of_length_le (by have := HN.out; omega)]; rfl


set_option maxRecDepth 100000 in
set_option maxHeartbeats 3200000 in
theorem sImages_any (P Q G : Int) (hP : 2 ≤ P ∧ P ≤ 2000000000) (hQ : 2 ≤ Q ∧ Q ≤ 2000000000) {B : Nat} {v : Value} {ad : Option Addr} {n cap : Nat} {rows : List (List Int)} {es : List Int} (hl : rows.length ≤ 8) (hr : ∀ z ∈ rows, z.length = es.length ∧ allEl P Q z = true) (he : allIn es 0 (Q - 1) = true) (h8 : es.length ≤ 8) {w : World} (hz : InS B w v rows) (hn : es.length = n) (hi : IsInts w ad es) :
    Calls Try.prog 77 #[gv P Q G, v, .slice ad n cap] w (OwnI w (imgs P rows es)) := by
  obtain ⟨ad', cap', rfl⟩ := hz.shape
  have hB := ba w (.cells #[.int .i64 P, .int .i64 Q, .int .i64 G] 32)
  have G_0 := Lib.hid (gr_new w P Q G 32)
  have HB_0 := Lib.hid hB
  have Z_0 := Lib.hid (hz.below hB)
  have E_0 := Lib.hid (hi.below hB (Nat.le_refl _))
  have HR := Lib.hid hr
  have HE := Lib.hid (exps_iff he)
  generalize hnr : rows.length = m at hz Z_0 hl
  have HM := Lib.hid hnr
  have HN := Lib.hid hn
  have hn8 : n ≤ 8 := by omega
  obtain ⟨i0, hi1, hz0, hz1, hz2⟩ := info_parts Try.info3
  obtain ⟨g0, g1, g2⟩ := G_0.out
  clear hB hz hr he hnr hn hi
  go_enter Try.func77, Try.ntmps77
  go_wp2_with fail
  generalize hW : w.alloc (.cells #[.int .i64 P, .int .i64 Q, .int .i64 G] 32) = W at *
  clear g0 g1 g2
  go_loopw [7, 12] (fun V K wr => ∃ (k : Nat) (va : Option Addr) (vc : Nat), k ≤ m ∧ K = .int .i64 k ∧ V = .slice va k vc ∧ wr.ownsRow W.heap.size 3 1 (.slice va k vc) k ((imgs P (rows.take k) es).map (Value.int .i64)) ∧ Below W.heap.size W wr) (fun _ K _ => m - (intOf K).toNat)
  case atStart => exact ⟨0, none, 0, Nat.zero_le _, rfl, rfl, by simpa [imgs] using World.ownsRow_nil _ _ _ _, Below.refl _ _⟩
  case round =>
    obtain ⟨k, va, vc, hk, rfl, rfl, hown, hbel⟩ := hrel
    have HO := Lib.hid hown
    have HBk := Lib.hid hbel
    have Z_1 := Lib.hid (Z_0.out.below hbel)
    have E_1 := Lib.hid (E_0.out.below hbel (Nat.le_refl _))
    have G_1 := Lib.hid (G_0.out.below hbel)
    clear hown hbel
    by_cases hkm : k < m
    · obtain ⟨b, off, a, c, z, rfl, hb, hc, hin, hd⟩ := Z_1.out.at (k := k) (by have := HM.out; omega)
      obtain ⟨hzl, hze⟩ := HR.out z (List.mem_of_mem_drop (i := k) (by rw [hd]; simp))
      have hzn : z.length = n := by rw [hzl, HN.out]
      have HI := Lib.hid (hin.ints).1
      have HZR := Lib.hid (all_rng hze)
      have ht : imgs P (rows.take (k + 1)) es = imgs P (rows.take k) es ++ [powsFrom P 1 z es] := by
        have hk' : k < rows.length := by have := HM.out; omega
        rw [List.drop_eq_getElem_cons hk'] at hd
        rw [List.take_succ_eq_append_getElem hk', (List.cons.inj hd).1]
        simp [imgs]
      have HT := Lib.hid ht
      rw [hzn] at hc
      have HZN := Lib.hid hzn
      obtain ⟨g0, g1, g2⟩ := G_1.out
      clear hd hin hzl hze hzn ht
      go_wp2_with fail
      refine (gProd_any P Q G _ _ n _ _ z es HZN.out HN.out (by omega) hP.1 hP.2 hQ.1 hQ.2 HZR.out HE.out _ HI.out E_1.out).mono ?_
      rintro e w2 ⟨rfl, hb2⟩
      have HO2 := Lib.hid (own_below HO.out hb2)
      have HB2 := Lib.hid (HBk.out.trans (hb2.mono HBk.out.size))
      clear hb2
      go_wp2_with (at_builtin; refine wpList_append_ints rfl _ _ 25 rfl W.heap.size 3 i0 Try.underlying25 hi1 hz0 hz1 hz2 _ k (imgs P (rows.take k) es) rfl (HO2.out.alloc _) (some ⟨w2.heap.size, 0, none⟩) 1 1 [powsFrom P 1 z es] rfl rfl (ints_spot w2 _ rfl [powsFrom P 1 z es] 3) (fun h => by cases h) (by omega) (by have := HB2.out.size; simp; omega) ?_)
      intro v' w3 hown3 hgrow
      obtain ⟨va', vc', rfl⟩ := own_shape hown3
      have HO3 := Lib.hid (show w3.ownsRow W.heap.size 3 1 (.slice va' (k + 1) vc') (k + 1) ((imgs P (rows.take (k + 1)) es).map (Value.int .i64)) from by rw [HT.out]; first | exact hown3 | simpa using hown3)
      have HB3 := Lib.hid ((HB2.out.alloc HB2.out.size _).grown hgrow (by have := HB2.out.size; simp; omega) (fun q hq => (HO2.out.lt q hq).1))
      clear hown3 hgrow
      go_wp2_with fail
      go_roundw
      case rel => exact ⟨k + 1, va', vc', by omega, by go_num, rfl, HO3.out, HB3.out⟩
      case measure => simp only [intOf]; omega
    · obtain rfl : k = m := by omega
      have h2 := HO.out
      rw [List.take_of_length_le (by have := HM.out; omega)] at h2
      have HO3 := Lib.hid h2
      have HIL := Lib.hid (show (imgs P rows es).length = k by rw [imgs_length, HM.out])
      have hwW : w.heap.size ≤ W.heap.size := HB_0.out.size
      have HBF := Lib.hid (bt HB_0.out HBk.out)
      clear h2
      go_wp2_with fail
      go_ret
      refine ⟨.slice va k vc, rfl, ?_, HBF.out⟩
      exact (owI_mk HO3.out HBk.out.size).wide hwW (Nat.le_refl _) (Nat.le_refl _)

theorem sLabel_any (P Q G : Int) (s : ByteArray) (hs : s.size ≤ 1048576) (w : World) :
    Calls Try.prog 60 #[gv P Q G, .string s] w fun e w' => e = .returned (.bool (goodB P Q G && decide (s.size ≤ 40))) ∧ Below w.heap.size w w' := by
  have G_0 := Lib.hid (gr_new w P Q G 32)
  have HB_0 := Lib.hid (ba w (.cells #[.int .i64 P, .int .i64 Q, .int .i64 G] 32))
  obtain ⟨g0, g1, g2⟩ := G_0.out
  cases hg : goodB P Q G
  · have HG := Lib.hid hg
    rw [Bool.false_and]
    clear hg
    go_enter Try.func60, Try.ntmps60
    go_wp2_with fail
    refine (l2Good_any P Q G _).mono ?_
    rw [HG.out]
    rintro e v1 ⟨rfl, hb⟩
    have HB_1 := Lib.hid (bt HB_0.out hb)
    clear hb
    go_wp2
    go_ret
    exact ⟨rfl, HB_1.out⟩
  · have HG := Lib.hid hg
    rw [Bool.true_and]
    have hd : decide ((s.size : Int) ≤ 40) = decide (s.size ≤ 40) := by
      rw [Bool.eq_iff_iff, decide_eq_true_eq, decide_eq_true_eq]; omega
    rw [← hd]
    clear hg hd
    go_enter Try.func60, Try.ntmps60
    go_wp2_with fail
    refine (l2Good_any P Q G _).mono ?_
    rw [HG.out]
    rintro e v1 ⟨rfl, hb⟩
    have HB_1 := Lib.hid (bt HB_0.out hb)
    clear hb
    go_wp2
    go_ret
    exact ⟨rfl, HB_1.out⟩

/-! ### ImagesOf -/
def AnsI (w : World) (zs : List Int) (ok : Bool) (e : Ending) (w' : World) : Prop := ∃ v, e = .returned (.tuple #[v, .bool ok]) ∧ OwI w.heap.size w'.heap.size w' v zs ∧ Below w.heap.size w w'
theorem ansI_nil {w w' : World} (hb : Below w.heap.size w w') : AnsI w [] false (.returned (.tuple #[.slice none 0 0, .bool false])) w' := ⟨_, rfl, owI_nil _ _ hb.size, hb⟩
theorem im_rows {P Q G : Int} {rows : List (List Int)} {es : List Int} (h : imB P Q G rows es = true) : rows.length ≤ 8 ∧ es.length ≤ 8 ∧ ∀ z ∈ rows, z.length = es.length ∧ allEl P Q z = true := by
  obtain ⟨_, h1, h2, _⟩ := imB_true.1 h
  obtain ⟨h3, h4, h5⟩ := rowsB_true.1 h1
  exact ⟨h3.2, by omega, fun z hz => ⟨by rw [(h5 z hz).1, h2], (h5 z hz).2⟩⟩

theorem imV_len (P Q G : Int) (rows : List (List Int)) (es : List Int) : (imV P Q G rows es).length ≤ 8 := by
  cases h : imB P Q G rows es
  · rw [im_off h]; exact Nat.zero_le _
  · rw [im_on h, imgs_length]; exact (im_rows h).1
set_option maxRecDepth 100000 in
set_option maxHeartbeats 3200000 in
theorem sImagesOf_any (P Q G : Int) {B C : Nat} {v u : Value} {rows : List (List Int)} {es : List Int} (hl : rows.length ≤ 1048576) (hr : ∀ z ∈ rows, z.length ≤ 17592186044416) (hel : es.length ≤ 1048576) {w : World} (hz : InS B w v rows) (he : InI C w u es) :
    Calls Try.prog 46 #[gv P Q G, v, u] w (AnsI w (imV P Q G rows es) (imB P Q G rows es)) := by
  obtain ⟨ad, cap, rfl⟩ := hz.shape
  obtain ⟨ad', cap', rfl⟩ := he.shape
  have HRL := Lib.hid hr
  have hB := ba w (.cells #[.int .i64 P, .int .i64 Q, .int .i64 G] 32)
  have G_0 := Lib.hid (gr_new w P Q G 32)
  have HB_0 := Lib.hid hB
  have Z_0 := Lib.hid (hz.below hB)
  have E_0 := Lib.hid (he.below hB)
  clear hr hz he
  rcases rows with _ | ⟨z0, rest⟩
  · cases h0 : goodB P Q G
    · have K0 := Lib.hid (show goodB P Q G = false from h0)
      have E1 := Lib.hid (show imB P Q G [] es = false by simp [imB, h0])
      have E2 := Lib.hid (im_off E1.out)
      rw [E1.out, E2.out]
      clear h0
      obtain ⟨gG0, gG1, gG2⟩ := G_0.out
      go_enter Try.func46, Try.ntmps46
      go_wp2_with fail
      refine (l2Good_any P Q G _).mono ?_
      rw [K0.out]
      rintro e v1 ⟨rfl, hb⟩
      have HB_1 := Lib.hid (bt HB_0.out hb)
      have G_1 := Lib.hid (G_0.out.below hb)
      have Z_1 := Lib.hid (Z_0.out.below hb)
      clear hb gG0 gG1 gG2
      obtain ⟨gG0, gG1, gG2⟩ := G_1.out
      go_wp2
      go_ret2
      exact ansI_nil HB_1.out
    have K0 := Lib.hid (show goodB P Q G = true from h0)
    have HGd := Lib.hid h0
    have E1 := Lib.hid (show imB P Q G [] es = false by simp [imB, rowsB])
    have E2 := Lib.hid (im_off E1.out)
    rw [E1.out, E2.out]
    have K9 := Lib.hid (show rowsB P Q [] = false by simp [rowsB])
    clear h0
    obtain ⟨gG0, gG1, gG2⟩ := G_0.out
    go_enter Try.func46, Try.ntmps46
    go_wp2_with fail
    refine (l2Good_any P Q G _).mono ?_
    rw [K0.out]
    rintro e v1 ⟨rfl, hb⟩
    have HB_1 := Lib.hid (bt HB_0.out hb)
    have G_1 := Lib.hid (G_0.out.below hb)
    have Z_1 := Lib.hid (Z_0.out.below hb)
    clear hb gG0 gG1 gG2
    obtain ⟨gG0, gG1, gG2⟩ := G_1.out
    go_wp2_with fail
    refine (sBases_any P Q G (good_mo (HGd.out)) hl HRL.out Z_1.out).mono ?_
    rw [K9.out]
    rintro e v9 ⟨rfl, hb⟩
    have HB_9 := Lib.hid (bt HB_1.out hb)
    clear hb
    go_wp2
    go_ret2
    exact ansI_nil HB_9.out
  · obtain ⟨zb, zo, za, zc, rfl, hc1⟩ := row_zero Z_0.out
    have C_0 := Lib.hid hc1
    clear hc1
    cases h0 : goodB P Q G
    · have K0 := Lib.hid (show goodB P Q G = false from h0)
      have E1 := Lib.hid (show imB P Q G (z0 :: rest) es = false by simp [imB, wid_cons, h0])
      have E2 := Lib.hid (im_off E1.out)
      rw [E1.out, E2.out]
      clear h0
      obtain ⟨gG0, gG1, gG2⟩ := G_0.out
      have cC := C_0.out
      unfold C1 at cC
      go_enter Try.func46, Try.ntmps46
      go_wp2_with fail
      refine (l2Good_any P Q G _).mono ?_
      rw [K0.out]
      rintro e v1 ⟨rfl, hb⟩
      have HB_1 := Lib.hid (bt HB_0.out hb)
      have G_1 := Lib.hid (G_0.out.below hb)
      have Z_1 := Lib.hid (Z_0.out.below hb)
      have E_1 := Lib.hid (E_0.out.below hb)
      have C_1 := Lib.hid (C_0.out.below hb)
      clear hb gG0 gG1 gG2 cC
      obtain ⟨gG0, gG1, gG2⟩ := G_1.out
      have cC := C_1.out
      unfold C1 at cC
      go_wp2
      go_ret2
      exact ansI_nil HB_1.out
    have K0 := Lib.hid (show goodB P Q G = true from h0)
    have HGd := Lib.hid h0
    cases h1 : rowsB P Q (z0 :: rest)
    · have K1 := Lib.hid (show rowsB P Q (z0 :: rest) = false from h1)
      have E1 := Lib.hid (show imB P Q G (z0 :: rest) es = false by simp [imB, wid_cons, h0, h1])
      have E2 := Lib.hid (im_off E1.out)
      rw [E1.out, E2.out]
      clear h0 h1
      obtain ⟨gG0, gG1, gG2⟩ := G_0.out
      have cC := C_0.out
      unfold C1 at cC
      go_enter Try.func46, Try.ntmps46
      go_wp2_with fail
      refine (l2Good_any P Q G _).mono ?_
      rw [K0.out]
      rintro e v1 ⟨rfl, hb⟩
      have HB_1 := Lib.hid (bt HB_0.out hb)
      have G_1 := Lib.hid (G_0.out.below hb)
      have Z_1 := Lib.hid (Z_0.out.below hb)
      have E_1 := Lib.hid (E_0.out.below hb)
      have C_1 := Lib.hid (C_0.out.below hb)
      clear hb gG0 gG1 gG2 cC
      obtain ⟨gG0, gG1, gG2⟩ := G_1.out
      have cC := C_1.out
      unfold C1 at cC
      go_wp2_with fail
      refine (sBases_any P Q G (good_mo (HGd.out)) hl HRL.out Z_1.out).mono ?_
      rw [K1.out]
      rintro e v2 ⟨rfl, hb⟩
      have HB_2 := Lib.hid (bt HB_1.out hb)
      have G_2 := Lib.hid (G_1.out.below hb)
      have Z_2 := Lib.hid (Z_1.out.below hb)
      have E_2 := Lib.hid (E_1.out.below hb)
      have C_2 := Lib.hid (C_1.out.below hb)
      clear hb gG0 gG1 gG2 cC
      obtain ⟨gG0, gG1, gG2⟩ := G_2.out
      have cC := C_2.out
      unfold C1 at cC
      go_wp2
      go_ret2
      exact ansI_nil HB_2.out
    have K1 := Lib.hid (show rowsB P Q (z0 :: rest) = true from h1)
    by_cases h2 : ¬ (es.length = z0.length)
    · have B2 : ((es.length : Int) != (z0.length : Int)) = true := by simp; omega
      have E1 := Lib.hid (show imB P Q G (z0 :: rest) es = false by simp [imB, wid_cons, h0, h1, h2])
      have E2 := Lib.hid (im_off E1.out)
      rw [E1.out, E2.out]
      clear h0 h1 h2
      obtain ⟨gG0, gG1, gG2⟩ := G_0.out
      have cC := C_0.out
      unfold C1 at cC
      go_enter Try.func46, Try.ntmps46
      go_wp2_with fail
      refine (l2Good_any P Q G _).mono ?_
      rw [K0.out]
      rintro e v1 ⟨rfl, hb⟩
      have HB_1 := Lib.hid (bt HB_0.out hb)
      have G_1 := Lib.hid (G_0.out.below hb)
      have Z_1 := Lib.hid (Z_0.out.below hb)
      have E_1 := Lib.hid (E_0.out.below hb)
      have C_1 := Lib.hid (C_0.out.below hb)
      clear hb gG0 gG1 gG2 cC
      obtain ⟨gG0, gG1, gG2⟩ := G_1.out
      have cC := C_1.out
      unfold C1 at cC
      go_wp2_with fail
      refine (sBases_any P Q G (good_mo (HGd.out)) hl HRL.out Z_1.out).mono ?_
      rw [K1.out]
      rintro e v2 ⟨rfl, hb⟩
      have HB_2 := Lib.hid (bt HB_1.out hb)
      have G_2 := Lib.hid (G_1.out.below hb)
      have Z_2 := Lib.hid (Z_1.out.below hb)
      have E_2 := Lib.hid (E_1.out.below hb)
      have C_2 := Lib.hid (C_1.out.below hb)
      clear hb gG0 gG1 gG2 cC
      obtain ⟨gG0, gG1, gG2⟩ := G_2.out
      have cC := C_2.out
      unfold C1 at cC
      go_wp2
      go_ret2
      exact ansI_nil HB_2.out
    have h2 := Decidable.not_not.1 h2
    have B2 : ((es.length : Int) != (z0.length : Int)) = false := by simp [h2]
    cases h3 : allIn es 0 (Q - 1)
    · have K3 := Lib.hid (show allIn es 0 (Q - 1) = false from h3)
      have E1 := Lib.hid (show imB P Q G (z0 :: rest) es = false by simp [imB, wid_cons, h0, h1, h2, h3])
      have E2 := Lib.hid (im_off E1.out)
      rw [E1.out, E2.out]
      clear h0 h1 h2 h3
      obtain ⟨gG0, gG1, gG2⟩ := G_0.out
      have cC := C_0.out
      unfold C1 at cC
      go_enter Try.func46, Try.ntmps46
      go_wp2_with fail
      refine (l2Good_any P Q G _).mono ?_
      rw [K0.out]
      rintro e v1 ⟨rfl, hb⟩
      have HB_1 := Lib.hid (bt HB_0.out hb)
      have G_1 := Lib.hid (G_0.out.below hb)
      have Z_1 := Lib.hid (Z_0.out.below hb)
      have E_1 := Lib.hid (E_0.out.below hb)
      have C_1 := Lib.hid (C_0.out.below hb)
      clear hb gG0 gG1 gG2 cC
      obtain ⟨gG0, gG1, gG2⟩ := G_1.out
      have cC := C_1.out
      unfold C1 at cC
      go_wp2_with fail
      refine (sBases_any P Q G (good_mo (HGd.out)) hl HRL.out Z_1.out).mono ?_
      rw [K1.out]
      rintro e v2 ⟨rfl, hb⟩
      have HB_2 := Lib.hid (bt HB_1.out hb)
      have G_2 := Lib.hid (G_1.out.below hb)
      have Z_2 := Lib.hid (Z_1.out.below hb)
      have E_2 := Lib.hid (E_1.out.below hb)
      have C_2 := Lib.hid (C_1.out.below hb)
      clear hb gG0 gG1 gG2 cC
      obtain ⟨gG0, gG1, gG2⟩ := G_2.out
      have cC := C_2.out
      unfold C1 at cC
      go_wp2_with fail
      refine (gExps_any P Q G ⟨by have := (good_rng HGd.out).2.1; omega, (good_rng HGd.out).2.1.2⟩ _ _ _ es rfl (by omega) _ (E_2.out.ints).1).mono ?_
      rw [K3.out]
      rintro e v3 ⟨rfl, hb⟩
      have HB_3 := Lib.hid (bt HB_2.out hb)
      have G_3 := Lib.hid (G_2.out.below hb)
      have Z_3 := Lib.hid (Z_2.out.below hb)
      have E_3 := Lib.hid (E_2.out.below hb)
      have C_3 := Lib.hid (C_2.out.below hb)
      clear hb gG0 gG1 gG2 cC
      obtain ⟨gG0, gG1, gG2⟩ := G_3.out
      have cC := C_3.out
      unfold C1 at cC
      go_wp2
      go_ret2
      exact ansI_nil HB_3.out
    have K3 := Lib.hid (show allIn es 0 (Q - 1) = true from h3)
    have hib := show imB P Q G (z0 :: rest) es = true by simp [imB, wid_cons, h0, h1, h2, h3]
    have E1 := Lib.hid hib
    have E2 := Lib.hid (im_on hib)
    rw [E1.out, E2.out]
    obtain ⟨q1, q2, q3⟩ := im_rows hib
    have HQ3 := Lib.hid q3
    have HIN := Lib.hid h3
    clear hib q3 h0 h1 h2 h3
    obtain ⟨gG0, gG1, gG2⟩ := G_0.out
    have cC := C_0.out
    unfold C1 at cC
    go_enter Try.func46, Try.ntmps46
    go_wp2_with fail
    refine (l2Good_any P Q G _).mono ?_
    rw [K0.out]
    rintro e v1 ⟨rfl, hb⟩
    have HB_1 := Lib.hid (bt HB_0.out hb)
    have G_1 := Lib.hid (G_0.out.below hb)
    have Z_1 := Lib.hid (Z_0.out.below hb)
    have E_1 := Lib.hid (E_0.out.below hb)
    have C_1 := Lib.hid (C_0.out.below hb)
    clear hb gG0 gG1 gG2 cC
    obtain ⟨gG0, gG1, gG2⟩ := G_1.out
    have cC := C_1.out
    unfold C1 at cC
    go_wp2_with fail
    refine (sBases_any P Q G (good_mo (HGd.out)) hl HRL.out Z_1.out).mono ?_
    rw [K1.out]
    rintro e v2 ⟨rfl, hb⟩
    have HB_2 := Lib.hid (bt HB_1.out hb)
    have G_2 := Lib.hid (G_1.out.below hb)
    have Z_2 := Lib.hid (Z_1.out.below hb)
    have E_2 := Lib.hid (E_1.out.below hb)
    have C_2 := Lib.hid (C_1.out.below hb)
    clear hb gG0 gG1 gG2 cC
    obtain ⟨gG0, gG1, gG2⟩ := G_2.out
    have cC := C_2.out
    unfold C1 at cC
    go_wp2_with fail
    refine (gExps_any P Q G ⟨by have := (good_rng HGd.out).2.1; omega, (good_rng HGd.out).2.1.2⟩ _ _ _ es rfl (by omega) _ (E_2.out.ints).1).mono ?_
    rw [K3.out]
    rintro e v3 ⟨rfl, hb⟩
    have HB_3 := Lib.hid (bt HB_2.out hb)
    have G_3 := Lib.hid (G_2.out.below hb)
    have Z_3 := Lib.hid (Z_2.out.below hb)
    have E_3 := Lib.hid (E_2.out.below hb)
    have C_3 := Lib.hid (C_2.out.below hb)
    clear hb gG0 gG1 gG2 cC
    obtain ⟨gG0, gG1, gG2⟩ := G_3.out
    have cC := C_3.out
    unfold C1 at cC
    go_wp2_with fail
    refine (sImages_any P Q G (good_mo HGd.out).1 (good_rng HGd.out).2.1 q1 HQ3.out HIN.out q2 Z_3.out rfl (E_3.out.ints).1).mono ?_
    rintro e v9 ⟨rc, rfl, ho, hb⟩
    have HB_9 := Lib.hid (bt HB_3.out hb)
    have HO := Lib.hid ho
    have HSZ := Lib.hid HB_3.out.size
    clear hb ho
    go_wp2_with fail
    go_ret2
    exact ⟨_, rfl, HO.out.wide HSZ.out (Nat.le_refl _) (Nat.le_refl _), HB_9.out⟩

set_option maxRecDepth 100000 in
set_option maxHeartbeats 3200000 in
theorem imagesOfB_any (P Q G : Int) {B C : Nat} {v u : Value} {rows : List (List Int)} {es : List Int} (hl : rows.length ≤ 1048576) (hr : ∀ z ∈ rows, z.length ≤ 17592186044416) (hel : es.length ≤ 1048576) {w : World} (hz : InS B w v rows) (he : InI C w u es) :
    Calls Try.prog 47 #[gv P Q G, v, u] w (AnsI w (imV P Q G rows es) (imB P Q G rows es)) := by
  obtain ⟨ad, cap, rfl⟩ := hz.shape
  obtain ⟨ad', cap', rfl⟩ := he.shape
  have HRL := Lib.hid hr
  have hB := ba w (.cells #[.int .i64 P, .int .i64 Q, .int .i64 G] 32)
  have G_0 := Lib.hid (gr_new w P Q G 32)
  have HB_0 := Lib.hid hB
  have Z_0 := Lib.hid (hz.below hB)
  have E_0 := Lib.hid (he.below hB)
  clear hr hz he
  rcases rows with _ | ⟨z0, rest⟩
  · cases h0 : goodB P Q G
    · have K0 := Lib.hid (show goodB P Q G = false from h0)
      have E1 := Lib.hid (show imB P Q G [] es = false by simp [imB, h0])
      have E2 := Lib.hid (im_off E1.out)
      rw [E1.out, E2.out]
      clear h0
      obtain ⟨gG0, gG1, gG2⟩ := G_0.out
      go_enter Try.func47, Try.ntmps47
      go_wp2_with fail
      refine (isValidGroup_any P Q G _).mono ?_
      rw [K0.out]
      rintro e v1 ⟨rfl, hb⟩
      have HB_1 := Lib.hid (bt HB_0.out hb)
      have G_1 := Lib.hid (G_0.out.below hb)
      have Z_1 := Lib.hid (Z_0.out.below hb)
      clear hb gG0 gG1 gG2
      obtain ⟨gG0, gG1, gG2⟩ := G_1.out
      go_wp2
      go_ret2
      exact ansI_nil HB_1.out
    have K0 := Lib.hid (show goodB P Q G = true from h0)
    have HGd := Lib.hid h0
    have E1 := Lib.hid (show imB P Q G [] es = false by simp [imB, rowsB])
    have E2 := Lib.hid (im_off E1.out)
    rw [E1.out, E2.out]
    have K9 := Lib.hid (show rowsB P Q [] = false by simp [rowsB])
    clear h0
    obtain ⟨gG0, gG1, gG2⟩ := G_0.out
    go_enter Try.func47, Try.ntmps47
    go_wp2_with fail
    refine (isValidGroup_any P Q G _).mono ?_
    rw [K0.out]
    rintro e v1 ⟨rfl, hb⟩
    have HB_1 := Lib.hid (bt HB_0.out hb)
    have G_1 := Lib.hid (G_0.out.below hb)
    have Z_1 := Lib.hid (Z_0.out.below hb)
    clear hb gG0 gG1 gG2
    obtain ⟨gG0, gG1, gG2⟩ := G_1.out
    go_wp2_with fail
    refine (areRows_any P Q G (good_mo (HGd.out)) hl HRL.out Z_1.out).mono ?_
    rw [K9.out]
    rintro e v9 ⟨rfl, hb⟩
    have HB_9 := Lib.hid (bt HB_1.out hb)
    clear hb
    go_wp2
    go_ret2
    exact ansI_nil HB_9.out
  · obtain ⟨zb, zo, za, zc, rfl, hc1⟩ := row_zero Z_0.out
    have C_0 := Lib.hid hc1
    clear hc1
    cases h0 : goodB P Q G
    · have K0 := Lib.hid (show goodB P Q G = false from h0)
      have E1 := Lib.hid (show imB P Q G (z0 :: rest) es = false by simp [imB, wid_cons, h0])
      have E2 := Lib.hid (im_off E1.out)
      rw [E1.out, E2.out]
      clear h0
      obtain ⟨gG0, gG1, gG2⟩ := G_0.out
      have cC := C_0.out
      unfold C1 at cC
      go_enter Try.func47, Try.ntmps47
      go_wp2_with fail
      refine (isValidGroup_any P Q G _).mono ?_
      rw [K0.out]
      rintro e v1 ⟨rfl, hb⟩
      have HB_1 := Lib.hid (bt HB_0.out hb)
      have G_1 := Lib.hid (G_0.out.below hb)
      have Z_1 := Lib.hid (Z_0.out.below hb)
      have E_1 := Lib.hid (E_0.out.below hb)
      have C_1 := Lib.hid (C_0.out.below hb)
      clear hb gG0 gG1 gG2 cC
      obtain ⟨gG0, gG1, gG2⟩ := G_1.out
      have cC := C_1.out
      unfold C1 at cC
      go_wp2
      go_ret2
      exact ansI_nil HB_1.out
    have K0 := Lib.hid (show goodB P Q G = true from h0)
    have HGd := Lib.hid h0
    cases h1 : rowsB P Q (z0 :: rest)
    · have K1 := Lib.hid (show rowsB P Q (z0 :: rest) = false from h1)
      have E1 := Lib.hid (show imB P Q G (z0 :: rest) es = false by simp [imB, wid_cons, h0, h1])
      have E2 := Lib.hid (im_off E1.out)
      rw [E1.out, E2.out]
      clear h0 h1
      obtain ⟨gG0, gG1, gG2⟩ := G_0.out
      have cC := C_0.out
      unfold C1 at cC
      go_enter Try.func47, Try.ntmps47
      go_wp2_with fail
      refine (isValidGroup_any P Q G _).mono ?_
      rw [K0.out]
      rintro e v1 ⟨rfl, hb⟩
      have HB_1 := Lib.hid (bt HB_0.out hb)
      have G_1 := Lib.hid (G_0.out.below hb)
      have Z_1 := Lib.hid (Z_0.out.below hb)
      have E_1 := Lib.hid (E_0.out.below hb)
      have C_1 := Lib.hid (C_0.out.below hb)
      clear hb gG0 gG1 gG2 cC
      obtain ⟨gG0, gG1, gG2⟩ := G_1.out
      have cC := C_1.out
      unfold C1 at cC
      go_wp2_with fail
      refine (areRows_any P Q G (good_mo (HGd.out)) hl HRL.out Z_1.out).mono ?_
      rw [K1.out]
      rintro e v2 ⟨rfl, hb⟩
      have HB_2 := Lib.hid (bt HB_1.out hb)
      have G_2 := Lib.hid (G_1.out.below hb)
      have Z_2 := Lib.hid (Z_1.out.below hb)
      have E_2 := Lib.hid (E_1.out.below hb)
      have C_2 := Lib.hid (C_1.out.below hb)
      clear hb gG0 gG1 gG2 cC
      obtain ⟨gG0, gG1, gG2⟩ := G_2.out
      have cC := C_2.out
      unfold C1 at cC
      go_wp2
      go_ret2
      exact ansI_nil HB_2.out
    have K1 := Lib.hid (show rowsB P Q (z0 :: rest) = true from h1)
    by_cases h2 : ¬ (es.length = z0.length)
    · have B2 : ((es.length : Int) != (z0.length : Int)) = true := by simp; omega
      have E1 := Lib.hid (show imB P Q G (z0 :: rest) es = false by simp [imB, wid_cons, h0, h1, h2])
      have E2 := Lib.hid (im_off E1.out)
      rw [E1.out, E2.out]
      clear h0 h1 h2
      obtain ⟨gG0, gG1, gG2⟩ := G_0.out
      have cC := C_0.out
      unfold C1 at cC
      go_enter Try.func47, Try.ntmps47
      go_wp2_with fail
      refine (isValidGroup_any P Q G _).mono ?_
      rw [K0.out]
      rintro e v1 ⟨rfl, hb⟩
      have HB_1 := Lib.hid (bt HB_0.out hb)
      have G_1 := Lib.hid (G_0.out.below hb)
      have Z_1 := Lib.hid (Z_0.out.below hb)
      have E_1 := Lib.hid (E_0.out.below hb)
      have C_1 := Lib.hid (C_0.out.below hb)
      clear hb gG0 gG1 gG2 cC
      obtain ⟨gG0, gG1, gG2⟩ := G_1.out
      have cC := C_1.out
      unfold C1 at cC
      go_wp2_with fail
      refine (areRows_any P Q G (good_mo (HGd.out)) hl HRL.out Z_1.out).mono ?_
      rw [K1.out]
      rintro e v2 ⟨rfl, hb⟩
      have HB_2 := Lib.hid (bt HB_1.out hb)
      have G_2 := Lib.hid (G_1.out.below hb)
      have Z_2 := Lib.hid (Z_1.out.below hb)
      have E_2 := Lib.hid (E_1.out.below hb)
      have C_2 := Lib.hid (C_1.out.below hb)
      clear hb gG0 gG1 gG2 cC
      obtain ⟨gG0, gG1, gG2⟩ := G_2.out
      have cC := C_2.out
      unfold C1 at cC
      go_wp2
      go_ret2
      exact ansI_nil HB_2.out
    have h2 := Decidable.not_not.1 h2
    have B2 : ((es.length : Int) != (z0.length : Int)) = false := by simp [h2]
    have h24 : es.length ≤ 24 := by have := (rowsB_true.1 h1).2.1; rw [wid_cons] at this; omega
    cases h3 : allIn es 0 (Q - 1)
    · have K3 := Lib.hid (show exsB Q es = false from (exsB'_all h24).trans h3)
      have E1 := Lib.hid (show imB P Q G (z0 :: rest) es = false by simp [imB, wid_cons, h0, h1, h2, h3])
      have E2 := Lib.hid (im_off E1.out)
      rw [E1.out, E2.out]
      clear h0 h1 h2 h3
      obtain ⟨gG0, gG1, gG2⟩ := G_0.out
      have cC := C_0.out
      unfold C1 at cC
      go_enter Try.func47, Try.ntmps47
      go_wp2_with fail
      refine (isValidGroup_any P Q G _).mono ?_
      rw [K0.out]
      rintro e v1 ⟨rfl, hb⟩
      have HB_1 := Lib.hid (bt HB_0.out hb)
      have G_1 := Lib.hid (G_0.out.below hb)
      have Z_1 := Lib.hid (Z_0.out.below hb)
      have E_1 := Lib.hid (E_0.out.below hb)
      have C_1 := Lib.hid (C_0.out.below hb)
      clear hb gG0 gG1 gG2 cC
      obtain ⟨gG0, gG1, gG2⟩ := G_1.out
      have cC := C_1.out
      unfold C1 at cC
      go_wp2_with fail
      refine (areRows_any P Q G (good_mo (HGd.out)) hl HRL.out Z_1.out).mono ?_
      rw [K1.out]
      rintro e v2 ⟨rfl, hb⟩
      have HB_2 := Lib.hid (bt HB_1.out hb)
      have G_2 := Lib.hid (G_1.out.below hb)
      have Z_2 := Lib.hid (Z_1.out.below hb)
      have E_2 := Lib.hid (E_1.out.below hb)
      have C_2 := Lib.hid (C_1.out.below hb)
      clear hb gG0 gG1 gG2 cC
      obtain ⟨gG0, gG1, gG2⟩ := G_2.out
      have cC := C_2.out
      unfold C1 at cC
      go_wp2_with fail
      refine (areExponents_any P Q G _ _ _ es rfl (by omega) _ (E_2.out.ints).1).mono ?_
      rw [K3.out]
      rintro e v3 ⟨rfl, hb⟩
      have HB_3 := Lib.hid (bt HB_2.out hb)
      have G_3 := Lib.hid (G_2.out.below hb)
      have Z_3 := Lib.hid (Z_2.out.below hb)
      have E_3 := Lib.hid (E_2.out.below hb)
      have C_3 := Lib.hid (C_2.out.below hb)
      clear hb gG0 gG1 gG2 cC
      obtain ⟨gG0, gG1, gG2⟩ := G_3.out
      have cC := C_3.out
      unfold C1 at cC
      go_wp2
      go_ret2
      exact ansI_nil HB_3.out
    have K3 := Lib.hid (show exsB Q es = true from (exsB'_all h24).trans h3)
    have hib := show imB P Q G (z0 :: rest) es = true by simp [imB, wid_cons, h0, h1, h2, h3]
    have E1 := Lib.hid hib
    have E2 := Lib.hid (im_on hib)
    rw [E1.out, E2.out]
    obtain ⟨q1, q2, q3⟩ := im_rows hib
    have HQ3 := Lib.hid q3
    have HIN := Lib.hid h3
    clear hib q3 h0 h1 h2 h3
    obtain ⟨gG0, gG1, gG2⟩ := G_0.out
    have cC := C_0.out
    unfold C1 at cC
    go_enter Try.func47, Try.ntmps47
    go_wp2_with fail
    refine (isValidGroup_any P Q G _).mono ?_
    rw [K0.out]
    rintro e v1 ⟨rfl, hb⟩
    have HB_1 := Lib.hid (bt HB_0.out hb)
    have G_1 := Lib.hid (G_0.out.below hb)
    have Z_1 := Lib.hid (Z_0.out.below hb)
    have E_1 := Lib.hid (E_0.out.below hb)
    have C_1 := Lib.hid (C_0.out.below hb)
    clear hb gG0 gG1 gG2 cC
    obtain ⟨gG0, gG1, gG2⟩ := G_1.out
    have cC := C_1.out
    unfold C1 at cC
    go_wp2_with fail
    refine (areRows_any P Q G (good_mo (HGd.out)) hl HRL.out Z_1.out).mono ?_
    rw [K1.out]
    rintro e v2 ⟨rfl, hb⟩
    have HB_2 := Lib.hid (bt HB_1.out hb)
    have G_2 := Lib.hid (G_1.out.below hb)
    have Z_2 := Lib.hid (Z_1.out.below hb)
    have E_2 := Lib.hid (E_1.out.below hb)
    have C_2 := Lib.hid (C_1.out.below hb)
    clear hb gG0 gG1 gG2 cC
    obtain ⟨gG0, gG1, gG2⟩ := G_2.out
    have cC := C_2.out
    unfold C1 at cC
    go_wp2_with fail
    refine (areExponents_any P Q G _ _ _ es rfl (by omega) _ (E_2.out.ints).1).mono ?_
    rw [K3.out]
    rintro e v3 ⟨rfl, hb⟩
    have HB_3 := Lib.hid (bt HB_2.out hb)
    have G_3 := Lib.hid (G_2.out.below hb)
    have Z_3 := Lib.hid (Z_2.out.below hb)
    have E_3 := Lib.hid (E_2.out.below hb)
    have C_3 := Lib.hid (C_2.out.below hb)
    clear hb gG0 gG1 gG2 cC
    obtain ⟨gG0, gG1, gG2⟩ := G_3.out
    have cC := C_3.out
    unfold C1 at cC
    go_wp2_with fail
    refine (imagesOf_any (C := 0) P Q G (good_mo HGd.out) q1 HQ3.out HIN.out q2 Z_3.out rfl (E_3.out.ints).1).mono ?_
    rintro e v9 ⟨rc, rfl, ho, hb⟩
    have HB_9 := Lib.hid (bt HB_3.out hb)
    have HO := Lib.hid ho
    have HSZ := Lib.hid HB_3.out.size
    clear hb ho
    go_wp2_with fail
    go_ret2
    exact ⟨_, rfl, HO.out.wide HSZ.out (Nat.le_refl _) (Nat.le_refl _), HB_9.out⟩

end Go.Proofs.Ytdaekpfngphefaa

/- Sigma proofs: IsTrueEqual of both. -/
namespace Go.Proofs.Ytdaekpfngphefaa
open Go.RowKit
set_option linter.unusedVariables false
set_option linter.unusedSimpArgs false

def isT (P a b c d x : Int) : Bool := decide (Num.pow a x P = b) && decide (Num.pow c x P = d)
def teB (P Q G a b c d x : Int) : Bool := goodB P Q G && (allEl P Q [a, b, c, d] && exB Q x)
def teV (P Q G a b c d x : Int) : Bool := teB P Q G a b c d x && isT P a b c d x
theorem exB_one (Q x : Int) : allIn [x] 0 (Q - 1) = exB Q x := by simp [allIn, exB]
theorem four_rng {P Q a b c d : Int} (hP : P ≤ 2000000000) (h : allEl P Q [a, b, c, d] = true) : (0 ≤ a ∧ a ≤ 2000000000) ∧ 0 ≤ c ∧ c ≤ 2000000000 := by
  have h1 := all_rng h a (by simp); have h2 := all_rng h c (by simp)
  exact ⟨⟨h1.1, by omega⟩, h2.1, by omega⟩
theorem sElements_any (P Q G a b c d : Int) (hm : Mo P Q) (w : World) :
    Calls Try.prog 65 #[gv P Q G, ev4 a b c d] w fun e w' => e = .returned (.bool (allEl P Q [a, b, c, d])) ∧ Below w.heap.size w w' := by
  have hal := ba (w.alloc (.cells #[.int .i64 P, .int .i64 Q, .int .i64 G] 32)) (.cells #[.int .i64 a, .int .i64 b, .int .i64 c, .int .i64 d] 47)
  have HB_0 := Lib.hid (bt (ba w (.cells #[.int .i64 P, .int .i64 Q, .int .i64 G] 32)) hal)
  have G_0 := Lib.hid (GR.below (gr_new w P Q G 32) hal)
  have hv := v4_new (w.alloc (.cells #[.int .i64 P, .int .i64 Q, .int .i64 G] 32)) a b c d 47
  rw [show (w.alloc (.cells #[.int .i64 P, .int .i64 Q, .int .i64 G] 32)).heap.size = w.heap.size + 1 by simp] at hv
  have V_0 := Lib.hid hv
  clear hal hv
  obtain ⟨g0, g1, g2⟩ := G_0.out
  obtain ⟨e0, e1, e2, e3⟩ := V_0.out
  go_enter Try.func65, Try.ntmps65
  generalize hW : (w.alloc (.cells #[.int .i64 P, .int .i64 Q, .int .i64 G] 32)).alloc (.cells #[.int .i64 a, .int .i64 b, .int .i64 c, .int .i64 d] 47) = W at *
  go_wp2_with fail
  refine (gIs_any P Q G hm _ 4 4 [a, b, c, d] rfl (by decide) _ (ints_spot W _ rfl [a, b, c, d] 3)).mono ?_
  rintro e w' ⟨rfl, hb⟩
  have HB_1 := Lib.hid (bt HB_0.out (bt (ba W _) hb))
  clear hb
  go_wp2
  go_ret
  exact ⟨rfl, HB_1.out⟩

set_option maxRecDepth 100000 in
set_option maxHeartbeats 3200000 in
theorem sTrue_any (P Q G a b c d x : Int) (hP : 2 ≤ P ∧ P ≤ 2000000000) (hQ : 2 ≤ Q ∧ Q ≤ 2000000000) (ha : 0 ≤ a ∧ a ≤ 2000000000) (hc : 0 ≤ c ∧ c ≤ 2000000000) (hx : 0 ≤ x ∧ x < Q) (w : World) :
    Calls Try.prog 81 #[gv P Q G, ev4 a b c d, .int .i64 x] w fun e w' => e = .returned (.bool (isT P a b c d x)) ∧ Below w.heap.size w w' := by
  unfold isT
  have hal := ba (w.alloc (.cells #[.int .i64 P, .int .i64 Q, .int .i64 G] 32)) (.cells #[.int .i64 a, .int .i64 b, .int .i64 c, .int .i64 d] 47)
  have HB_0 := Lib.hid (bt (ba w (.cells #[.int .i64 P, .int .i64 Q, .int .i64 G] 32)) hal)
  have G_0 := Lib.hid (GR.below (gr_new w P Q G 32) hal)
  have hv := v4_new (w.alloc (.cells #[.int .i64 P, .int .i64 Q, .int .i64 G] 32)) a b c d 47
  rw [show (w.alloc (.cells #[.int .i64 P, .int .i64 Q, .int .i64 G] 32)).heap.size = w.heap.size + 1 by simp] at hv
  have V_0 := Lib.hid hv
  clear hal hv
  generalize hp1 : Num.pow a x P = p1
  generalize hp2 : Num.pow c x P = p2
  have P1 := Lib.hid hp1
  have P2 := Lib.hid hp2
  by_cases h1 : p1 = b
  · have E1 : decide (p1 = b) = true := by simpa using h1
    have E2 : decide (p2 = d) = (p2 == d) := by simp [BEq.beq]
    rw [E1, Bool.true_and, E2]
    have h1' := h1.symm
    clear hp1 hp2 E1 E2 h1
    subst h1'
    go_enter Try.func81, Try.ntmps81
    go_wp2_with fail
    obtain ⟨g0, g1, g2⟩ := G_0.out
    obtain ⟨e0, e1, e2, e3⟩ := V_0.out
    go_region_held3 (fun w' => (w'.cell? ⟨w.heap.size, 0, none⟩ = some (.int .i64 P) ∧ w'.cell? ⟨w.heap.size, 1, none⟩ = some (.int .i64 Q) ∧ w'.cell? ⟨w.heap.size, 2, none⟩ = some (.int .i64 G)) ∧ w'.cell? ⟨w.heap.size + 1, 0, none⟩ = some (.int .i64 a) ∧ w'.cell? ⟨w.heap.size + 1, 1, none⟩ = some (.int .i64 b) ∧ w'.cell? ⟨w.heap.size + 1, 2, none⟩ = some (.int .i64 c) ∧ w'.cell? ⟨w.heap.size + 1, 3, none⟩ = some (.int .i64 d)) (first | with_reducible exact ⟨⟨s0, s1, s2⟩, t0, t1, t2, t3⟩ | with_reducible exact ⟨⟨x0, x1, x2⟩, y0, y1, y2, y3⟩ | exact ⟨⟨g0, g1, g2⟩, e0, e1, e2, e3⟩) ((first
      | (go_at_call 99; (with_reducible refine (gExp_any P Q G a x (by omega) (by omega) (by omega) (by omega) (by omega) (by omega) (by omega) (by omega) _).mono ?_); rw [P1.out]; rintro e vp ⟨rfl, hp⟩; have HBp := Lib.hid (bt HB_0.out.drew hp); have Gp := Lib.hid (GR.below (GR.drew G_0.out) hp); have Vp := Lib.hid (V4.below (V4.drew V_0.out) hp); obtain ⟨x0, x1, x2⟩ := Gp.out; obtain ⟨y0, y1, y2, y3⟩ := Vp.out; clear hp)
      | (go_at_call 99; (with_reducible refine (gExp_any P Q G c x (by omega) (by omega) (by omega) (by omega) (by omega) (by omega) (by omega) (by omega) _).mono ?_); rw [P2.out]; rintro e vq ⟨rfl, hp⟩; have HBq := Lib.hid (bt HBp.out hp); obtain ⟨s0, s1, s2⟩ := Gp.out.below hp; obtain ⟨t0, t1, t2, t3⟩ := Vp.out.below hp; clear hp)
      | fail))
    all_goals (
      go_wp2_with fail
      go_ret
      first | exact ⟨rfl, HBq.out⟩ | exact ⟨rfl, HBp.out⟩)
  · have hi1 : (p1 == b) = false := by simpa using h1
    have E1 : decide (p1 = b) = false := by simpa using h1
    rw [E1, Bool.false_and]
    clear h1 hp1 hp2 E1
    go_enter Try.func81, Try.ntmps81
    go_wp2_with fail
    obtain ⟨g0, g1, g2⟩ := G_0.out
    obtain ⟨e0, e1, e2, e3⟩ := V_0.out
    refine wp_region_held_drew (S := (fun w' => (w'.cell? ⟨w.heap.size, 0, none⟩ = some (.int .i64 P) ∧ w'.cell? ⟨w.heap.size, 1, none⟩ = some (.int .i64 Q) ∧ w'.cell? ⟨w.heap.size, 2, none⟩ = some (.int .i64 G)) ∧ w'.cell? ⟨w.heap.size + 1, 0, none⟩ = some (.int .i64 a) ∧ w'.cell? ⟨w.heap.size + 1, 1, none⟩ = some (.int .i64 b) ∧ w'.cell? ⟨w.heap.size + 1, 2, none⟩ = some (.int .i64 c) ∧ w'.cell? ⟨w.heap.size + 1, 3, none⟩ = some (.int .i64 d))) (by kernel_rfl) (by first | exact ⟨⟨G_0.out.1, G_0.out.2.1, G_0.out.2.2⟩, V_0.out.1, V_0.out.2.1, V_0.out.2.2.1, V_0.out.2.2.2⟩ | (dsimp only; exact ⟨⟨G_0.out.1, G_0.out.2.1, G_0.out.2.2⟩, V_0.out.1, V_0.out.2.1, V_0.out.2.2.1, V_0.out.2.2.2⟩)) (fun hHeld => ?_)
    refine wpAnyH_take (i := 0) (v := ?_) rfl (by kernel_rfl) (by kernel_rfl) (by kernel_rfl) (fun _ _ _ h => h) (Or.inl ⟨by kernel_rfl, ?_⟩) (by assumption) ?_
    rotate_left 1
    · intro w hSw
      try dsimp only at hSw
      go_simp
      try with_reducible rfl
    try simp only [Act.put, List.getElem_toArray, List.getElem_cons_succ, List.getElem_cons_zero, List.setIfInBounds_toArray, List.set_cons_zero, List.set_cons_succ]
    refine wpAnyH_take (i := 1) (v := ?_) rfl (by kernel_rfl) (by kernel_rfl) (by kernel_rfl) (fun _ _ _ h => h) (Or.inl ⟨by kernel_rfl, ?_⟩) (by assumption) ?_
    rotate_left 1
    · intro w hSw
      try dsimp only at hSw
      go_simp
      try with_reducible rfl
    try simp only [Act.put, List.getElem_toArray, List.getElem_cons_succ, List.getElem_cons_zero, List.setIfInBounds_toArray, List.set_cons_zero, List.set_cons_succ]
    refine wpAnyH_take (i := 2) (v := ?_) rfl (by kernel_rfl) (by kernel_rfl) (by kernel_rfl) (fun _ _ _ h => h) (Or.inl ⟨by kernel_rfl, ?_⟩) (by assumption) ?_
    rotate_left 1
    · intro w hSw
      try dsimp only at hSw
      go_simp
      try with_reducible rfl
    try simp only [Act.put, List.getElem_toArray, List.getElem_cons_succ, List.getElem_cons_zero, List.setIfInBounds_toArray, List.set_cons_zero, List.set_cons_succ]
    refine wpAnyH_take (i := 3) (v := ?_) rfl (by kernel_rfl) (by kernel_rfl) (by kernel_rfl) (fun _ _ _ h => h) (Or.inl ⟨by kernel_rfl, ?_⟩) (by assumption) ?_
    rotate_left 1
    · intro w hSw
      try dsimp only at hSw
      go_simp
      try with_reducible rfl
    try simp only [Act.put, List.getElem_toArray, List.getElem_cons_succ, List.getElem_cons_zero, List.setIfInBounds_toArray, List.set_cons_zero, List.set_cons_succ]
    refine wpAnyH_take (i := 5) (v := ?_) rfl (by kernel_rfl) (by kernel_rfl) (by kernel_rfl) (fun _ _ _ h => h) (Or.inl ⟨by kernel_rfl, ?_⟩) (by assumption) ?_
    rotate_left 1
    · intro w hSw
      try dsimp only at hSw
      go_simp
      try with_reducible rfl
    try simp only [Act.put, List.getElem_toArray, List.getElem_cons_succ, List.getElem_cons_zero, List.setIfInBounds_toArray, List.set_cons_zero, List.set_cons_succ]
    refine wpAnyH_take (i := 6) (v := ?_) rfl (by kernel_rfl) (by kernel_rfl) (by kernel_rfl) (fun _ _ _ h => h) (Or.inl ⟨by kernel_rfl, ?_⟩) (by assumption) ?_
    rotate_left 1
    · intro w hSw
      try dsimp only at hSw
      go_simp
      try with_reducible rfl
    try simp only [Act.put, List.getElem_toArray, List.getElem_cons_succ, List.getElem_cons_zero, List.setIfInBounds_toArray, List.set_cons_zero, List.set_cons_succ]
    refine wpAnyH_ready (rs := [4]) (by kernel_rfl) (by simp) ?_
    refine AllReadyH.cons rfl (fun K hK => ?_) AllReadyH.nil
    go_simp
    go_at_call 99
    refine (gExp_any P Q G a x (by omega) (by omega) (by omega) (by omega) (by omega) (by omega) (by omega) (by omega) _).mono ?_
    rw [P1.out]
    rintro e vp ⟨rfl, hp⟩
    have HBp := Lib.hid (bt HB_0.out.drew hp)
    have Gp := Lib.hid (GR.below (GR.drew G_0.out) hp)
    have Vp := Lib.hid (V4.below (V4.drew V_0.out) hp)
    clear hp
    go_wp2_with fail
    refine hK.out _ _ (by first | exact ⟨⟨Gp.out.1, Gp.out.2.1, Gp.out.2.2⟩, Vp.out.1, Vp.out.2.1, Vp.out.2.2.1, Vp.out.2.2.2⟩ | (dsimp only; exact ⟨⟨Gp.out.1, Gp.out.2.1, Gp.out.2.2⟩, Vp.out.1, Vp.out.2.1, Vp.out.2.2.1, Vp.out.2.2.2⟩)) (fun hHeld => ?_)
    clear hK K
    try simp only [Act.put, List.getElem_toArray, List.getElem_cons_succ, List.getElem_cons_zero, List.setIfInBounds_toArray, List.set_cons_zero, List.set_cons_succ]
    refine wpAnyH_take (i := 7) (v := ?_) rfl (by kernel_rfl) (by kernel_rfl) (by kernel_rfl) (fun _ _ _ h => h) (Or.inl ⟨by kernel_rfl, ?_⟩) (by assumption) ?_
    rotate_left 1
    · intro w hSw
      try dsimp only at hSw
      go_simp
      try with_reducible rfl
    try simp only [Act.put, List.getElem_toArray, List.getElem_cons_succ, List.getElem_cons_zero, List.setIfInBounds_toArray, List.set_cons_zero, List.set_cons_succ]
    refine wpAnyH_take (i := 8) (v := ?_) rfl (by kernel_rfl) (by kernel_rfl) (by kernel_rfl) (fun _ _ _ h => h) (Or.inl ⟨by kernel_rfl, ?_⟩) (by assumption) ?_
    rotate_left 1
    · intro w hSw
      try dsimp only at hSw
      go_simp
      try with_reducible rfl
    try simp only [Act.put, List.getElem_toArray, List.getElem_cons_succ, List.getElem_cons_zero, List.setIfInBounds_toArray, List.set_cons_zero, List.set_cons_succ]
    refine wpAnyH_take (i := 9) (v := undef) rfl (by kernel_rfl) (by kernel_rfl) (by kernel_rfl) (fun _ _ _ h => h) (Or.inr ⟨by kernel_rfl, rfl⟩) (by assumption) ?_
    try simp only [Act.put, List.getElem_toArray, List.getElem_cons_succ, List.getElem_cons_zero, List.setIfInBounds_toArray, List.set_cons_zero, List.set_cons_succ]
    refine wpAnyH_take (i := 10) (v := undef) rfl (by kernel_rfl) (by kernel_rfl) (by kernel_rfl) (fun _ _ _ h => h) (Or.inr ⟨by kernel_rfl, rfl⟩) (by assumption) ?_
    try simp only [Act.put, List.getElem_toArray, List.getElem_cons_succ, List.getElem_cons_zero, List.setIfInBounds_toArray, List.set_cons_zero, List.set_cons_succ]
    refine wpAnyH_take (i := 11) (v := undef) rfl (by kernel_rfl) (by kernel_rfl) (by kernel_rfl) (fun _ _ _ h => h) (Or.inr ⟨by kernel_rfl, rfl⟩) (by assumption) ?_
    try simp only [Act.put, List.getElem_toArray, List.getElem_cons_succ, List.getElem_cons_zero, List.setIfInBounds_toArray, List.set_cons_zero, List.set_cons_succ]
    refine wpAnyH_take (i := 12) (v := undef) rfl (by kernel_rfl) (by kernel_rfl) (by kernel_rfl) (fun _ _ _ h => h) (Or.inr ⟨by kernel_rfl, rfl⟩) (by assumption) ?_
    try simp only [Act.put, List.getElem_toArray, List.getElem_cons_succ, List.getElem_cons_zero, List.setIfInBounds_toArray, List.set_cons_zero, List.set_cons_succ]
    refine wpAnyH_take (i := 13) (v := undef) rfl (by kernel_rfl) (by kernel_rfl) (by kernel_rfl) (fun _ _ _ h => h) (Or.inr ⟨by kernel_rfl, rfl⟩) (by assumption) ?_
    try simp only [Act.put, List.getElem_toArray, List.getElem_cons_succ, List.getElem_cons_zero, List.setIfInBounds_toArray, List.set_cons_zero, List.set_cons_succ]
    refine wpAnyH_take (i := 14) (v := undef) rfl (by kernel_rfl) (by kernel_rfl) (by kernel_rfl) (fun _ _ _ h => h) (Or.inr ⟨by kernel_rfl, rfl⟩) (by assumption) ?_
    try simp only [Act.put, List.getElem_toArray, List.getElem_cons_succ, List.getElem_cons_zero, List.setIfInBounds_toArray, List.set_cons_zero, List.set_cons_succ]
    refine wpAnyH_take (i := 15) (v := undef) rfl (by kernel_rfl) (by kernel_rfl) (by kernel_rfl) (fun _ _ _ h => h) (Or.inr ⟨by kernel_rfl, rfl⟩) (by assumption) ?_
    try simp only [Act.put, List.getElem_toArray, List.getElem_cons_succ, List.getElem_cons_zero, List.setIfInBounds_toArray, List.set_cons_zero, List.set_cons_succ]
    refine wpAnyH_take (i := 16) (v := undef) rfl (by kernel_rfl) (by kernel_rfl) (by kernel_rfl) (fun _ _ _ h => h) (Or.inr ⟨by kernel_rfl, rfl⟩) (by assumption) ?_
    try simp only [Act.put, List.getElem_toArray, List.getElem_cons_succ, List.getElem_cons_zero, List.setIfInBounds_toArray, List.set_cons_zero, List.set_cons_succ]
    refine wpAnyH_take (i := 17) (v := ?_) rfl (by kernel_rfl) (by kernel_rfl) (by kernel_rfl) (fun _ _ _ h => h) (Or.inl ⟨by kernel_rfl, ?_⟩) (by assumption) ?_
    rotate_left 1
    · intro w hSw
      try dsimp only at hSw
      go_simp
      try with_reducible rfl
    try simp only [Act.put, List.getElem_toArray, List.getElem_cons_succ, List.getElem_cons_zero, List.setIfInBounds_toArray, List.set_cons_zero, List.set_cons_succ]
    refine wpAnyH_take (i := 18) (v := ?_) rfl (by kernel_rfl) (by kernel_rfl) (by kernel_rfl) (fun _ _ _ h => h) (Or.inl ⟨by kernel_rfl, ?_⟩) (by assumption) ?_
    rotate_left 1
    · intro w hSw
      try dsimp only at hSw
      go_simp
      try with_reducible rfl
    try simp only [Act.put, List.getElem_toArray, List.getElem_cons_succ, List.getElem_cons_zero, List.setIfInBounds_toArray, List.set_cons_zero, List.set_cons_succ]
    refine wpAnyH_done (by kernel_rfl) ?_ _
    go_wp2_with fail
    go_ret
    exact ⟨rfl, HBp.out⟩

set_option maxRecDepth 100000 in
set_option maxHeartbeats 3200000 in
theorem sIsTrueEqual_any (P Q G a b c d x : Int) (w : World) :
    Calls Try.prog 49 #[gv P Q G, ev4 a b c d, .int .i64 x] w fun e w' => e = .returned (.tuple #[.bool (teV P Q G a b c d x), .bool (teB P Q G a b c d x)]) ∧ Below w.heap.size w w' := by
  unfold teV teB
  have hal := ba (w.alloc (.cells #[.int .i64 P, .int .i64 Q, .int .i64 G] 32)) (.cells #[.int .i64 a, .int .i64 b, .int .i64 c, .int .i64 d] 47)
  have HB_0 := Lib.hid (bt (ba w (.cells #[.int .i64 P, .int .i64 Q, .int .i64 G] 32)) hal)
  have G_0 := Lib.hid (GR.below (gr_new w P Q G 32) hal)
  have hv := v4_new (w.alloc (.cells #[.int .i64 P, .int .i64 Q, .int .i64 G] 32)) a b c d 47
  rw [show (w.alloc (.cells #[.int .i64 P, .int .i64 Q, .int .i64 G] 32)).heap.size = w.heap.size + 1 by simp] at hv
  have V_0 := Lib.hid hv
  clear hal hv
  cases h0 : goodB P Q G
  · have K0 := Lib.hid h0
    rw [Bool.false_and, Bool.false_and]
    clear h0
    obtain ⟨g0, g1, g2⟩ := G_0.out
    obtain ⟨e0, e1, e2, e3⟩ := V_0.out
    go_enter Try.func49, Try.ntmps49
    go_wp2_with fail
    refine (l2Good_any P Q G _).mono ?_
    rw [K0.out]
    rintro e v1 ⟨rfl, hb⟩
    have HB_1 := Lib.hid (bt HB_0.out hb)
    have G_1 := Lib.hid (G_0.out.below hb)
    have V_1 := Lib.hid (V_0.out.below hb)
    clear hb g0 g1 g2 e0 e1 e2 e3
    obtain ⟨g0, g1, g2⟩ := G_1.out
    obtain ⟨e0, e1, e2, e3⟩ := V_1.out
    go_wp2
    go_ret2
    exact ⟨rfl, HB_1.out⟩
  have K0 := Lib.hid h0
  have hmo := good_mo h0
  have hgr := good_rng h0
  clear h0
  cases h1 : allEl P Q [a, b, c, d]
  · have K1 := Lib.hid h1
    rw [Bool.true_and, Bool.false_and, Bool.false_and]
    clear h1
    obtain ⟨g0, g1, g2⟩ := G_0.out
    obtain ⟨e0, e1, e2, e3⟩ := V_0.out
    go_enter Try.func49, Try.ntmps49
    go_wp2_with fail
    refine (l2Good_any P Q G _).mono ?_
    rw [K0.out]
    rintro e v1 ⟨rfl, hb⟩
    have HB_1 := Lib.hid (bt HB_0.out hb)
    have G_1 := Lib.hid (G_0.out.below hb)
    have V_1 := Lib.hid (V_0.out.below hb)
    clear hb g0 g1 g2 e0 e1 e2 e3
    obtain ⟨g0, g1, g2⟩ := G_1.out
    obtain ⟨e0, e1, e2, e3⟩ := V_1.out
    go_wp2_with fail
    refine (sElements_any P Q G a b c d hmo _).mono ?_
    rw [K1.out]
    rintro e v2 ⟨rfl, hb⟩
    have HB_2 := Lib.hid (bt HB_1.out hb)
    have G_2 := Lib.hid (G_1.out.below hb)
    have V_2 := Lib.hid (V_1.out.below hb)
    clear hb g0 g1 g2 e0 e1 e2 e3
    obtain ⟨g0, g1, g2⟩ := G_2.out
    obtain ⟨e0, e1, e2, e3⟩ := V_2.out
    go_wp2
    go_ret2
    exact ⟨rfl, HB_2.out⟩
  have K1 := Lib.hid h1
  obtain ⟨ha, hc⟩ := four_rng hmo.1.2 h1
  clear h1
  cases h2 : exB Q x
  · have K2 := Lib.hid ((exB_one Q x).trans h2)
    rw [Bool.true_and, Bool.true_and, Bool.false_and]
    clear h2
    obtain ⟨g0, g1, g2⟩ := G_0.out
    obtain ⟨e0, e1, e2, e3⟩ := V_0.out
    go_enter Try.func49, Try.ntmps49
    go_wp2_with fail
    refine (l2Good_any P Q G _).mono ?_
    rw [K0.out]
    rintro e v1 ⟨rfl, hb⟩
    have HB_1 := Lib.hid (bt HB_0.out hb)
    have G_1 := Lib.hid (G_0.out.below hb)
    have V_1 := Lib.hid (V_0.out.below hb)
    clear hb g0 g1 g2 e0 e1 e2 e3
    obtain ⟨g0, g1, g2⟩ := G_1.out
    obtain ⟨e0, e1, e2, e3⟩ := V_1.out
    go_wp2_with fail
    refine (sElements_any P Q G a b c d hmo _).mono ?_
    rw [K1.out]
    rintro e v2 ⟨rfl, hb⟩
    have HB_2 := Lib.hid (bt HB_1.out hb)
    have G_2 := Lib.hid (G_1.out.below hb)
    have V_2 := Lib.hid (V_1.out.below hb)
    clear hb g0 g1 g2 e0 e1 e2 e3
    obtain ⟨g0, g1, g2⟩ := G_2.out
    obtain ⟨e0, e1, e2, e3⟩ := V_2.out
    go_wp2_with fail
    refine (gExps_any P Q G ⟨by omega, by omega⟩ _ 1 1 [x] rfl (by decide) _ (ints_lit v2 [x] 3)).mono ?_
    rw [K2.out]
    rintro e v3 ⟨rfl, hb0⟩
    have hb := bt (ba v2 _) hb0
    clear hb0
    have HB_3 := Lib.hid (bt HB_2.out hb)
    have G_3 := Lib.hid (G_2.out.below hb)
    have V_3 := Lib.hid (V_2.out.below hb)
    clear hb g0 g1 g2 e0 e1 e2 e3
    obtain ⟨g0, g1, g2⟩ := G_3.out
    obtain ⟨e0, e1, e2, e3⟩ := V_3.out
    go_wp2
    go_ret2
    exact ⟨rfl, HB_3.out⟩
  have K2 := Lib.hid ((exB_one Q x).trans h2)
  have hx := exB_true.1 h2
  have hPP := hmo.1
  have hQQ := hgr.2.1
  rw [Bool.true_and, Bool.true_and, Bool.true_and]
  clear h2
  obtain ⟨g0, g1, g2⟩ := G_0.out
  obtain ⟨e0, e1, e2, e3⟩ := V_0.out
  go_enter Try.func49, Try.ntmps49
  go_wp2_with fail
  refine (l2Good_any P Q G _).mono ?_
  rw [K0.out]
  rintro e v1 ⟨rfl, hb⟩
  have HB_1 := Lib.hid (bt HB_0.out hb)
  have G_1 := Lib.hid (G_0.out.below hb)
  have V_1 := Lib.hid (V_0.out.below hb)
  clear hb g0 g1 g2 e0 e1 e2 e3
  obtain ⟨g0, g1, g2⟩ := G_1.out
  obtain ⟨e0, e1, e2, e3⟩ := V_1.out
  go_wp2_with fail
  refine (sElements_any P Q G a b c d hmo _).mono ?_
  rw [K1.out]
  rintro e v2 ⟨rfl, hb⟩
  have HB_2 := Lib.hid (bt HB_1.out hb)
  have G_2 := Lib.hid (G_1.out.below hb)
  have V_2 := Lib.hid (V_1.out.below hb)
  clear hb g0 g1 g2 e0 e1 e2 e3
  obtain ⟨g0, g1, g2⟩ := G_2.out
  obtain ⟨e0, e1, e2, e3⟩ := V_2.out
  go_wp2_with fail
  refine (gExps_any P Q G ⟨by omega, by omega⟩ _ 1 1 [x] rfl (by decide) _ (ints_lit v2 [x] 3)).mono ?_
  rw [K2.out]
  rintro e v3 ⟨rfl, hb0⟩
  have hb := bt (ba v2 _) hb0
  clear hb0
  have HB_3 := Lib.hid (bt HB_2.out hb)
  have G_3 := Lib.hid (G_2.out.below hb)
  have V_3 := Lib.hid (V_2.out.below hb)
  clear hb g0 g1 g2 e0 e1 e2 e3
  obtain ⟨g0, g1, g2⟩ := G_3.out
  obtain ⟨e0, e1, e2, e3⟩ := V_3.out
  go_wp2_with fail
  refine (sTrue_any P Q G a b c d x hPP hQQ ha hc hx _).mono ?_
  rintro e v4 ⟨rfl, hb⟩
  have HB_4 := Lib.hid (bt HB_3.out hb)
  have G_4 := Lib.hid (G_3.out.below hb)
  have V_4 := Lib.hid (V_3.out.below hb)
  clear hb g0 g1 g2 e0 e1 e2 e3
  obtain ⟨g0, g1, g2⟩ := G_4.out
  obtain ⟨e0, e1, e2, e3⟩ := V_4.out
  go_wp2
  go_ret2
  exact ⟨rfl, HB_4.out⟩

set_option maxRecDepth 100000 in
set_option maxHeartbeats 3200000 in
theorem isTrueEqual_any (P Q G a b c d x : Int) (w : World) :
    Calls Try.prog 50 #[gv P Q G, ev4 a b c d, .int .i64 x] w fun e w' => e = .returned (.tuple #[.bool (teV P Q G a b c d x), .bool (teB P Q G a b c d x)]) ∧ Below w.heap.size w w' := by
  unfold teV teB
  have hal := ba (w.alloc (.cells #[.int .i64 P, .int .i64 Q, .int .i64 G] 32)) (.cells #[.int .i64 a, .int .i64 b, .int .i64 c, .int .i64 d] 47)
  have HB_0 := Lib.hid (bt (ba w (.cells #[.int .i64 P, .int .i64 Q, .int .i64 G] 32)) hal)
  have G_0 := Lib.hid (GR.below (gr_new w P Q G 32) hal)
  have hv := v4_new (w.alloc (.cells #[.int .i64 P, .int .i64 Q, .int .i64 G] 32)) a b c d 47
  rw [show (w.alloc (.cells #[.int .i64 P, .int .i64 Q, .int .i64 G] 32)).heap.size = w.heap.size + 1 by simp] at hv
  have V_0 := Lib.hid hv
  clear hal hv
  cases h0 : goodB P Q G
  · have K0 := Lib.hid h0
    rw [Bool.false_and, Bool.false_and]
    clear h0
    obtain ⟨g0, g1, g2⟩ := G_0.out
    obtain ⟨e0, e1, e2, e3⟩ := V_0.out
    go_enter Try.func50, Try.ntmps50
    go_wp2_with fail
    refine (isValidGroup_any P Q G _).mono ?_
    rw [K0.out]
    rintro e v1 ⟨rfl, hb⟩
    have HB_1 := Lib.hid (bt HB_0.out hb)
    have G_1 := Lib.hid (G_0.out.below hb)
    have V_1 := Lib.hid (V_0.out.below hb)
    clear hb g0 g1 g2 e0 e1 e2 e3
    obtain ⟨g0, g1, g2⟩ := G_1.out
    obtain ⟨e0, e1, e2, e3⟩ := V_1.out
    go_wp2
    go_ret2
    exact ⟨rfl, HB_1.out⟩
  have K0 := Lib.hid h0
  have hmo := good_mo h0
  have hgr := good_rng h0
  clear h0
  cases h1 : allEl P Q [a, b, c, d]
  · have K1 := Lib.hid h1
    rw [Bool.true_and, Bool.false_and, Bool.false_and]
    clear h1
    obtain ⟨g0, g1, g2⟩ := G_0.out
    obtain ⟨e0, e1, e2, e3⟩ := V_0.out
    go_enter Try.func50, Try.ntmps50
    go_wp2_with fail
    refine (isValidGroup_any P Q G _).mono ?_
    rw [K0.out]
    rintro e v1 ⟨rfl, hb⟩
    have HB_1 := Lib.hid (bt HB_0.out hb)
    have G_1 := Lib.hid (G_0.out.below hb)
    have V_1 := Lib.hid (V_0.out.below hb)
    clear hb g0 g1 g2 e0 e1 e2 e3
    obtain ⟨g0, g1, g2⟩ := G_1.out
    obtain ⟨e0, e1, e2, e3⟩ := V_1.out
    go_wp2_with fail
    refine (hasEqualLog_any P Q G a b c d hmo _).mono ?_
    rw [K1.out]
    rintro e v2 ⟨rfl, hb⟩
    have HB_2 := Lib.hid (bt HB_1.out hb)
    have G_2 := Lib.hid (G_1.out.below hb)
    have V_2 := Lib.hid (V_1.out.below hb)
    clear hb g0 g1 g2 e0 e1 e2 e3
    obtain ⟨g0, g1, g2⟩ := G_2.out
    obtain ⟨e0, e1, e2, e3⟩ := V_2.out
    go_wp2
    go_ret2
    exact ⟨rfl, HB_2.out⟩
  have K1 := Lib.hid h1
  obtain ⟨ha, hc⟩ := four_rng hmo.1.2 h1
  clear h1
  cases h2 : exB Q x
  · have K2 := Lib.hid h2
    rw [Bool.true_and, Bool.true_and, Bool.false_and]
    clear h2
    obtain ⟨g0, g1, g2⟩ := G_0.out
    obtain ⟨e0, e1, e2, e3⟩ := V_0.out
    go_enter Try.func50, Try.ntmps50
    go_wp2_with fail
    refine (isValidGroup_any P Q G _).mono ?_
    rw [K0.out]
    rintro e v1 ⟨rfl, hb⟩
    have HB_1 := Lib.hid (bt HB_0.out hb)
    have G_1 := Lib.hid (G_0.out.below hb)
    have V_1 := Lib.hid (V_0.out.below hb)
    clear hb g0 g1 g2 e0 e1 e2 e3
    obtain ⟨g0, g1, g2⟩ := G_1.out
    obtain ⟨e0, e1, e2, e3⟩ := V_1.out
    go_wp2_with fail
    refine (hasEqualLog_any P Q G a b c d hmo _).mono ?_
    rw [K1.out]
    rintro e v2 ⟨rfl, hb⟩
    have HB_2 := Lib.hid (bt HB_1.out hb)
    have G_2 := Lib.hid (G_1.out.below hb)
    have V_2 := Lib.hid (V_1.out.below hb)
    clear hb g0 g1 g2 e0 e1 e2 e3
    obtain ⟨g0, g1, g2⟩ := G_2.out
    obtain ⟨e0, e1, e2, e3⟩ := V_2.out
    go_wp2_with fail
    refine (hasExponent_any P Q G x _).mono ?_
    rw [K2.out]
    rintro e v3 ⟨rfl, hb⟩
    have HB_3 := Lib.hid (bt HB_2.out hb)
    have G_3 := Lib.hid (G_2.out.below hb)
    have V_3 := Lib.hid (V_2.out.below hb)
    clear hb g0 g1 g2 e0 e1 e2 e3
    obtain ⟨g0, g1, g2⟩ := G_3.out
    obtain ⟨e0, e1, e2, e3⟩ := V_3.out
    go_wp2
    go_ret2
    exact ⟨rfl, HB_3.out⟩
  have K2 := Lib.hid h2
  have hx := exB_true.1 h2
  have hPP := hmo.1
  have hQQ := hgr.2.1
  rw [Bool.true_and, Bool.true_and, Bool.true_and]
  clear h2
  unfold isT
  generalize hp1 : Num.pow a x P = p1
  generalize hp2 : Num.pow c x P = p2
  have P1 := Lib.hid hp1
  have P2 := Lib.hid hp2
  by_cases h1 : p1 = b
  · have E1 : decide (p1 = b) = true := by simpa using h1
    have E2 : decide (p2 = d) = (p2 == d) := by simp [BEq.beq]
    rw [E1, Bool.true_and, E2]
    have h1' := h1.symm
    clear hp1 hp2 E1 E2 h1
    subst h1'
    obtain ⟨g0, g1, g2⟩ := G_0.out
    obtain ⟨e0, e1, e2, e3⟩ := V_0.out
    go_enter Try.func50, Try.ntmps50
    go_wp2_with fail
    refine (isValidGroup_any P Q G _).mono ?_
    rw [K0.out]
    rintro e v1 ⟨rfl, hb⟩
    have HB_1 := Lib.hid (bt HB_0.out hb)
    have G_1 := Lib.hid (G_0.out.below hb)
    have V_1 := Lib.hid (V_0.out.below hb)
    clear hb g0 g1 g2 e0 e1 e2 e3
    obtain ⟨g0, g1, g2⟩ := G_1.out
    obtain ⟨e0, e1, e2, e3⟩ := V_1.out
    go_wp2_with fail
    refine (hasEqualLog_any P Q G a b c d hmo _).mono ?_
    rw [K1.out]
    rintro e v2 ⟨rfl, hb⟩
    have HB_2 := Lib.hid (bt HB_1.out hb)
    have G_2 := Lib.hid (G_1.out.below hb)
    have V_2 := Lib.hid (V_1.out.below hb)
    clear hb g0 g1 g2 e0 e1 e2 e3
    obtain ⟨g0, g1, g2⟩ := G_2.out
    obtain ⟨e0, e1, e2, e3⟩ := V_2.out
    go_wp2_with fail
    refine (hasExponent_any P Q G x _).mono ?_
    rw [K2.out]
    rintro e v3 ⟨rfl, hb⟩
    have HB_3 := Lib.hid (bt HB_2.out hb)
    have G_3 := Lib.hid (G_2.out.below hb)
    have V_3 := Lib.hid (V_2.out.below hb)
    clear hb g0 g1 g2 e0 e1 e2 e3
    obtain ⟨g0, g1, g2⟩ := G_3.out
    obtain ⟨e0, e1, e2, e3⟩ := V_3.out
    go_wp2_with fail
    go_region_held3 (fun w' => (w'.cell? ⟨w.heap.size, 0, none⟩ = some (.int .i64 P) ∧ w'.cell? ⟨w.heap.size, 1, none⟩ = some (.int .i64 Q) ∧ w'.cell? ⟨w.heap.size, 2, none⟩ = some (.int .i64 G)) ∧ w'.cell? ⟨w.heap.size + 1, 0, none⟩ = some (.int .i64 a) ∧ w'.cell? ⟨w.heap.size + 1, 1, none⟩ = some (.int .i64 b) ∧ w'.cell? ⟨w.heap.size + 1, 2, none⟩ = some (.int .i64 c) ∧ w'.cell? ⟨w.heap.size + 1, 3, none⟩ = some (.int .i64 d)) (first | with_reducible exact ⟨⟨s0, s1, s2⟩, t0, t1, t2, t3⟩ | with_reducible exact ⟨⟨x0, x1, x2⟩, y0, y1, y2, y3⟩ | exact ⟨⟨g0, g1, g2⟩, e0, e1, e2, e3⟩) ((first
      | (go_at_call 84; (with_reducible refine (power_any P Q G a x (by omega) (by omega) (by omega) (by omega) (by omega) (by omega) _).mono ?_); rw [P1.out]; rintro e vp ⟨rfl, hp⟩; have HBp := Lib.hid (bt HB_3.out.drew hp); have Gp := Lib.hid (GR.below (GR.drew G_3.out) hp); have Vp := Lib.hid (V4.below (V4.drew V_3.out) hp); obtain ⟨x0, x1, x2⟩ := Gp.out; obtain ⟨y0, y1, y2, y3⟩ := Vp.out; clear hp)
      | (go_at_call 84; (with_reducible refine (power_any P Q G c x (by omega) (by omega) (by omega) (by omega) (by omega) (by omega) _).mono ?_); rw [P2.out]; rintro e vq ⟨rfl, hp⟩; have HBq := Lib.hid (bt HBp.out hp); obtain ⟨s0, s1, s2⟩ := Gp.out.below hp; obtain ⟨t0, t1, t2, t3⟩ := Vp.out.below hp; clear hp)
      | fail))
    all_goals (
      go_wp2_with fail
      go_ret2
      first | exact ⟨rfl, HBq.out⟩ | exact ⟨rfl, HBp.out⟩)
  · have hi1 : (p1 == b) = false := by simpa using h1
    have E1 : decide (p1 = b) = false := by simpa using h1
    rw [E1, Bool.false_and]
    clear h1 hp1 hp2 E1
    obtain ⟨g0, g1, g2⟩ := G_0.out
    obtain ⟨e0, e1, e2, e3⟩ := V_0.out
    go_enter Try.func50, Try.ntmps50
    go_wp2_with fail
    refine (isValidGroup_any P Q G _).mono ?_
    rw [K0.out]
    rintro e v1 ⟨rfl, hb⟩
    have HB_1 := Lib.hid (bt HB_0.out hb)
    have G_1 := Lib.hid (G_0.out.below hb)
    have V_1 := Lib.hid (V_0.out.below hb)
    clear hb g0 g1 g2 e0 e1 e2 e3
    obtain ⟨g0, g1, g2⟩ := G_1.out
    obtain ⟨e0, e1, e2, e3⟩ := V_1.out
    go_wp2_with fail
    refine (hasEqualLog_any P Q G a b c d hmo _).mono ?_
    rw [K1.out]
    rintro e v2 ⟨rfl, hb⟩
    have HB_2 := Lib.hid (bt HB_1.out hb)
    have G_2 := Lib.hid (G_1.out.below hb)
    have V_2 := Lib.hid (V_1.out.below hb)
    clear hb g0 g1 g2 e0 e1 e2 e3
    obtain ⟨g0, g1, g2⟩ := G_2.out
    obtain ⟨e0, e1, e2, e3⟩ := V_2.out
    go_wp2_with fail
    refine (hasExponent_any P Q G x _).mono ?_
    rw [K2.out]
    rintro e v3 ⟨rfl, hb⟩
    have HB_3 := Lib.hid (bt HB_2.out hb)
    have G_3 := Lib.hid (G_2.out.below hb)
    have V_3 := Lib.hid (V_2.out.below hb)
    clear hb g0 g1 g2 e0 e1 e2 e3
    obtain ⟨g0, g1, g2⟩ := G_3.out
    obtain ⟨e0, e1, e2, e3⟩ := V_3.out
    go_wp2_with fail
    refine wp_region_held_drew (S := (fun w' => (w'.cell? ⟨w.heap.size, 0, none⟩ = some (.int .i64 P) ∧ w'.cell? ⟨w.heap.size, 1, none⟩ = some (.int .i64 Q) ∧ w'.cell? ⟨w.heap.size, 2, none⟩ = some (.int .i64 G)) ∧ w'.cell? ⟨w.heap.size + 1, 0, none⟩ = some (.int .i64 a) ∧ w'.cell? ⟨w.heap.size + 1, 1, none⟩ = some (.int .i64 b) ∧ w'.cell? ⟨w.heap.size + 1, 2, none⟩ = some (.int .i64 c) ∧ w'.cell? ⟨w.heap.size + 1, 3, none⟩ = some (.int .i64 d))) (by kernel_rfl) (by first | exact ⟨⟨G_3.out.1, G_3.out.2.1, G_3.out.2.2⟩, V_3.out.1, V_3.out.2.1, V_3.out.2.2.1, V_3.out.2.2.2⟩ | (dsimp only; exact ⟨⟨G_3.out.1, G_3.out.2.1, G_3.out.2.2⟩, V_3.out.1, V_3.out.2.1, V_3.out.2.2.1, V_3.out.2.2.2⟩)) (fun hHeld => ?_)
    refine wpAnyH_take (i := 0) (v := ?_) rfl (by kernel_rfl) (by kernel_rfl) (by kernel_rfl) (fun _ _ _ h => h) (Or.inl ⟨by kernel_rfl, ?_⟩) (by assumption) ?_
    rotate_left 1
    · intro w hSw
      try dsimp only at hSw
      go_simp
      try with_reducible rfl
    try simp only [Act.put, List.getElem_toArray, List.getElem_cons_succ, List.getElem_cons_zero, List.setIfInBounds_toArray, List.set_cons_zero, List.set_cons_succ]
    refine wpAnyH_take (i := 1) (v := ?_) rfl (by kernel_rfl) (by kernel_rfl) (by kernel_rfl) (fun _ _ _ h => h) (Or.inl ⟨by kernel_rfl, ?_⟩) (by assumption) ?_
    rotate_left 1
    · intro w hSw
      try dsimp only at hSw
      go_simp
      try with_reducible rfl
    try simp only [Act.put, List.getElem_toArray, List.getElem_cons_succ, List.getElem_cons_zero, List.setIfInBounds_toArray, List.set_cons_zero, List.set_cons_succ]
    refine wpAnyH_take (i := 2) (v := ?_) rfl (by kernel_rfl) (by kernel_rfl) (by kernel_rfl) (fun _ _ _ h => h) (Or.inl ⟨by kernel_rfl, ?_⟩) (by assumption) ?_
    rotate_left 1
    · intro w hSw
      try dsimp only at hSw
      go_simp
      try with_reducible rfl
    try simp only [Act.put, List.getElem_toArray, List.getElem_cons_succ, List.getElem_cons_zero, List.setIfInBounds_toArray, List.set_cons_zero, List.set_cons_succ]
    refine wpAnyH_take (i := 3) (v := ?_) rfl (by kernel_rfl) (by kernel_rfl) (by kernel_rfl) (fun _ _ _ h => h) (Or.inl ⟨by kernel_rfl, ?_⟩) (by assumption) ?_
    rotate_left 1
    · intro w hSw
      try dsimp only at hSw
      go_simp
      try with_reducible rfl
    try simp only [Act.put, List.getElem_toArray, List.getElem_cons_succ, List.getElem_cons_zero, List.setIfInBounds_toArray, List.set_cons_zero, List.set_cons_succ]
    refine wpAnyH_take (i := 5) (v := ?_) rfl (by kernel_rfl) (by kernel_rfl) (by kernel_rfl) (fun _ _ _ h => h) (Or.inl ⟨by kernel_rfl, ?_⟩) (by assumption) ?_
    rotate_left 1
    · intro w hSw
      try dsimp only at hSw
      go_simp
      try with_reducible rfl
    try simp only [Act.put, List.getElem_toArray, List.getElem_cons_succ, List.getElem_cons_zero, List.setIfInBounds_toArray, List.set_cons_zero, List.set_cons_succ]
    refine wpAnyH_take (i := 6) (v := ?_) rfl (by kernel_rfl) (by kernel_rfl) (by kernel_rfl) (fun _ _ _ h => h) (Or.inl ⟨by kernel_rfl, ?_⟩) (by assumption) ?_
    rotate_left 1
    · intro w hSw
      try dsimp only at hSw
      go_simp
      try with_reducible rfl
    try simp only [Act.put, List.getElem_toArray, List.getElem_cons_succ, List.getElem_cons_zero, List.setIfInBounds_toArray, List.set_cons_zero, List.set_cons_succ]
    refine wpAnyH_ready (rs := [4]) (by kernel_rfl) (by simp) ?_
    refine AllReadyH.cons rfl (fun K hK => ?_) AllReadyH.nil
    go_simp
    go_at_call 84
    refine (power_any P Q G a x (by omega) (by omega) (by omega) (by omega) (by omega) (by omega) _).mono ?_
    rw [P1.out]
    rintro e vp ⟨rfl, hp⟩
    have HBp := Lib.hid (bt HB_3.out.drew hp)
    have Gp := Lib.hid (GR.below (GR.drew G_3.out) hp)
    have Vp := Lib.hid (V4.below (V4.drew V_3.out) hp)
    clear hp
    go_wp2_with fail
    refine hK.out _ _ (by first | exact ⟨⟨Gp.out.1, Gp.out.2.1, Gp.out.2.2⟩, Vp.out.1, Vp.out.2.1, Vp.out.2.2.1, Vp.out.2.2.2⟩ | (dsimp only; exact ⟨⟨Gp.out.1, Gp.out.2.1, Gp.out.2.2⟩, Vp.out.1, Vp.out.2.1, Vp.out.2.2.1, Vp.out.2.2.2⟩)) (fun hHeld => ?_)
    clear hK K
    try simp only [Act.put, List.getElem_toArray, List.getElem_cons_succ, List.getElem_cons_zero, List.setIfInBounds_toArray, List.set_cons_zero, List.set_cons_succ]
    refine wpAnyH_take (i := 7) (v := ?_) rfl (by kernel_rfl) (by kernel_rfl) (by kernel_rfl) (fun _ _ _ h => h) (Or.inl ⟨by kernel_rfl, ?_⟩) (by assumption) ?_
    rotate_left 1
    · intro w hSw
      try dsimp only at hSw
      go_simp
      try with_reducible rfl
    try simp only [Act.put, List.getElem_toArray, List.getElem_cons_succ, List.getElem_cons_zero, List.setIfInBounds_toArray, List.set_cons_zero, List.set_cons_succ]
    refine wpAnyH_take (i := 8) (v := ?_) rfl (by kernel_rfl) (by kernel_rfl) (by kernel_rfl) (fun _ _ _ h => h) (Or.inl ⟨by kernel_rfl, ?_⟩) (by assumption) ?_
    rotate_left 1
    · intro w hSw
      try dsimp only at hSw
      go_simp
      try with_reducible rfl
    try simp only [Act.put, List.getElem_toArray, List.getElem_cons_succ, List.getElem_cons_zero, List.setIfInBounds_toArray, List.set_cons_zero, List.set_cons_succ]
    refine wpAnyH_take (i := 9) (v := undef) rfl (by kernel_rfl) (by kernel_rfl) (by kernel_rfl) (fun _ _ _ h => h) (Or.inr ⟨by kernel_rfl, rfl⟩) (by assumption) ?_
    try simp only [Act.put, List.getElem_toArray, List.getElem_cons_succ, List.getElem_cons_zero, List.setIfInBounds_toArray, List.set_cons_zero, List.set_cons_succ]
    refine wpAnyH_take (i := 10) (v := undef) rfl (by kernel_rfl) (by kernel_rfl) (by kernel_rfl) (fun _ _ _ h => h) (Or.inr ⟨by kernel_rfl, rfl⟩) (by assumption) ?_
    try simp only [Act.put, List.getElem_toArray, List.getElem_cons_succ, List.getElem_cons_zero, List.setIfInBounds_toArray, List.set_cons_zero, List.set_cons_succ]
    refine wpAnyH_take (i := 11) (v := undef) rfl (by kernel_rfl) (by kernel_rfl) (by kernel_rfl) (fun _ _ _ h => h) (Or.inr ⟨by kernel_rfl, rfl⟩) (by assumption) ?_
    try simp only [Act.put, List.getElem_toArray, List.getElem_cons_succ, List.getElem_cons_zero, List.setIfInBounds_toArray, List.set_cons_zero, List.set_cons_succ]
    refine wpAnyH_take (i := 12) (v := undef) rfl (by kernel_rfl) (by kernel_rfl) (by kernel_rfl) (fun _ _ _ h => h) (Or.inr ⟨by kernel_rfl, rfl⟩) (by assumption) ?_
    try simp only [Act.put, List.getElem_toArray, List.getElem_cons_succ, List.getElem_cons_zero, List.setIfInBounds_toArray, List.set_cons_zero, List.set_cons_succ]
    refine wpAnyH_take (i := 13) (v := undef) rfl (by kernel_rfl) (by kernel_rfl) (by kernel_rfl) (fun _ _ _ h => h) (Or.inr ⟨by kernel_rfl, rfl⟩) (by assumption) ?_
    try simp only [Act.put, List.getElem_toArray, List.getElem_cons_succ, List.getElem_cons_zero, List.setIfInBounds_toArray, List.set_cons_zero, List.set_cons_succ]
    refine wpAnyH_take (i := 14) (v := undef) rfl (by kernel_rfl) (by kernel_rfl) (by kernel_rfl) (fun _ _ _ h => h) (Or.inr ⟨by kernel_rfl, rfl⟩) (by assumption) ?_
    try simp only [Act.put, List.getElem_toArray, List.getElem_cons_succ, List.getElem_cons_zero, List.setIfInBounds_toArray, List.set_cons_zero, List.set_cons_succ]
    refine wpAnyH_take (i := 15) (v := undef) rfl (by kernel_rfl) (by kernel_rfl) (by kernel_rfl) (fun _ _ _ h => h) (Or.inr ⟨by kernel_rfl, rfl⟩) (by assumption) ?_
    try simp only [Act.put, List.getElem_toArray, List.getElem_cons_succ, List.getElem_cons_zero, List.setIfInBounds_toArray, List.set_cons_zero, List.set_cons_succ]
    refine wpAnyH_take (i := 16) (v := undef) rfl (by kernel_rfl) (by kernel_rfl) (by kernel_rfl) (fun _ _ _ h => h) (Or.inr ⟨by kernel_rfl, rfl⟩) (by assumption) ?_
    try simp only [Act.put, List.getElem_toArray, List.getElem_cons_succ, List.getElem_cons_zero, List.setIfInBounds_toArray, List.set_cons_zero, List.set_cons_succ]
    refine wpAnyH_take (i := 17) (v := ?_) rfl (by kernel_rfl) (by kernel_rfl) (by kernel_rfl) (fun _ _ _ h => h) (Or.inl ⟨by kernel_rfl, ?_⟩) (by assumption) ?_
    rotate_left 1
    · intro w hSw
      try dsimp only at hSw
      go_simp
      try with_reducible rfl
    try simp only [Act.put, List.getElem_toArray, List.getElem_cons_succ, List.getElem_cons_zero, List.setIfInBounds_toArray, List.set_cons_zero, List.set_cons_succ]
    refine wpAnyH_take (i := 18) (v := ?_) rfl (by kernel_rfl) (by kernel_rfl) (by kernel_rfl) (fun _ _ _ h => h) (Or.inl ⟨by kernel_rfl, ?_⟩) (by assumption) ?_
    rotate_left 1
    · intro w hSw
      try dsimp only at hSw
      go_simp
      try with_reducible rfl
    try simp only [Act.put, List.getElem_toArray, List.getElem_cons_succ, List.getElem_cons_zero, List.setIfInBounds_toArray, List.set_cons_zero, List.set_cons_succ]
    refine wpAnyH_take (i := 19) (v := ?_) rfl (by kernel_rfl) (by kernel_rfl) (by kernel_rfl) (fun _ _ _ h => h) (Or.inl ⟨by kernel_rfl, ?_⟩) (by assumption) ?_
    rotate_left 1
    · intro w hSw
      try dsimp only at hSw
      go_simp
      try with_reducible rfl
    try simp only [Act.put, List.getElem_toArray, List.getElem_cons_succ, List.getElem_cons_zero, List.setIfInBounds_toArray, List.set_cons_zero, List.set_cons_succ]
    refine wpAnyH_done (by kernel_rfl) ?_ _
    go_wp2_with fail
    go_ret2
    exact ⟨rfl, HBp.out⟩

end Go.Proofs.Ytdaekpfngphefaa

