/- Chapter 12: CombineKey of both. -/
import Derived.Test.YtchlnkdlnfjijaaDkP
import Derived.Test.YtchlnkdlnfjijaaVL
namespace Go.Proofs.Ytchlnkdlnfjijaa
open Go.RowKit
set_option linter.unusedVariables false
set_option linter.unusedSimpArgs false

theorem putL_mem {Q : Int} : ∀ {s is xs : List Int}, (∀ z ∈ s, 0 ≤ z ∧ z < Q) → (∀ z ∈ xs, 0 ≤ z ∧ z < Q) → ∀ z ∈ putL s is xs, 0 ≤ z ∧ z < Q
  | s, [], xs, hs, _, z, hz => by cases xs <;> exact hs z hz
  | s, i :: is, [], hs, _, z, hz => hs z hz
  | s, i :: is, x :: xs, hs, hx, z, hz => by
    refine putL_mem (s := s.set (i - 1).toNat x) (fun y hy => ?_) (fun y hy => hx y (List.mem_cons_of_mem _ hy)) z hz
    rcases List.mem_or_eq_of_mem_set hy with h | h
    · exact hs y h
    · subst h; exact hx y (by simp)
theorem likeD_mk {d e : DlD} (h1 : d.c.length = e.c.length) (h2 : d.s.length = e.s.length) : likeD d e = true := by
  unfold likeD; rw [decide_eq_true h1, decide_eq_true h2]; rfl
theorem head_get {l : List Int} (h : 0 < l.length) : l[0]? = some (l.headD 0) := by
  cases l with
  | nil => simp at h
  | cons a b => rfl
theorem allIn_of {Q : Int} {l : List Int} (h : ∀ z ∈ l, 0 ≤ z ∧ z < Q) : allIn l 0 (Q - 1) = true := by
  unfold allIn
  rw [List.all_eq_true]
  intro z hz
  exact exB_true.2 (h z hz)
/-- Settled dealings are valid and like the first dealing. -/
theorem qd_ok {P Q G : Int} {ds : List DlD} {av : List (List Int)} (h : kaB P Q G ds av = true) : ∀ k, k ≤ ds.length → ∀ d ∈ qdL P Q G ds av k, dlB P Q d.c d.s = true ∧ likeD (ds.headD nilD) d = true
  | 0, _, d, hd => by simp [qdL] at hd
  | k + 1, hk, d, hd => by
    obtain ⟨hki, hal, has⟩ := ka_facts h
    obtain ⟨_, _, hdd⟩ := ki_facts hki
    rw [qdL] at hd
    split at hd
    · rw [List.mem_append, List.mem_singleton] at hd
      rcases hd with hd | hd
      · exact qd_ok h k (by omega) d hd
      · subst hd
        have e1 : ds.getD k nilD = ds[k] := by rw [List.getD_eq_getElem?_getD, List.getElem?_eq_getElem (by omega)]; rfl
        have e2 : av.getD k [] = av[k] := by rw [List.getD_eq_getElem?_getD, List.getElem?_eq_getElem (by omega)]; rfl
        rw [e1, e2]
        obtain ⟨g1, _, g3⟩ := hdd ds[k] (List.getElem_mem _)
        obtain ⟨a1, a2⟩ := has av[k] (List.getElem_mem _)
        have hdl : dlB P Q ds[k].c ds[k].s = true := by unfold ivB at g1; rw [Bool.and_eq_true] at g1; exact g1.2
        obtain ⟨c1, c2, c3⟩ := dlB_true.1 hdl
        obtain ⟨s1, s2⟩ := shsB_true.1 c3
        have hp := putL_length ds[k].s (badL P Q G ds[k]) av[k]
        refine ⟨dlB_true.2 ⟨c1, show ds[k].c.length ≤ (putL ds[k].s (badL P Q G ds[k]) av[k]).length by omega, shsB_true.2 ⟨show (putL ds[k].s (badL P Q G ds[k]) av[k]).length ≤ 7 by omega, allIn_of (putL_mem (allIn_res7 s2) a2)⟩⟩, ?_⟩
        unfold likeD at g3 ⊢
        show (decide _ && decide (_ = (putL _ _ _).length)) = true
        rw [hp]; exact g3
    · exact qd_ok h k (by omega) d hd
def cgB (P Q G : Int) (ds : List DlD) (av : List (List Int)) : Bool := kaB P Q G ds av && decide (0 < (qdL P Q G ds av ds.length).length)
theorem cg_sum {P Q G : Int} {ds : List DlD} {av : List (List Int)} (h : kaB P Q G ds av = true) : sdB P Q G (qdL P Q G ds av ds.length) = decide (0 < (qdL P Q G ds av ds.length).length) := by
  obtain ⟨h1, ⟨_, h7⟩, _⟩ := ki_facts (ka_facts h).1
  have hl := quL_length P Q G ds av ds.length
  have hq := qd_ok h ds.length (Nat.le_refl _)
  generalize hqd : qdL P Q G ds av ds.length = qd at *
  cases qd with
  | nil => rw [decide_eq_false (by simp)]; unfold sdB; rw [show inB (([] : List DlD).length : Int) 1 7 = false from by decide]; simp
  | cons d qs =>
    rw [decide_eq_true (by simp)]
    unfold sdB
    have e1 : inB (((d :: qs).length : Nat) : Int) 1 7 = true := inB_true.2 (by simp only [List.length_cons] at hl ⊢; omega)
    have e2 : ((d :: qs).all fun d => dlB P Q d.c d.s) = true := by rw [List.all_eq_true]; exact fun x hx => (hq x hx).1
    have e3 : ((d :: qs).all fun x => likeD ((d :: qs).headD nilD) x) = true := by
      rw [List.all_eq_true]
      intro x hx
      have a := likeD_eq (hq d (by simp)).2
      have b := likeD_eq (hq x hx).2
      exact likeD_mk (show d.c.length = x.c.length by omega) (show d.s.length = x.s.length by omega)
    rw [h1, e1, e2, e3]; rfl
def nilK : KgD := ⟨[], 0, [], []⟩
def cgV (P Q G : Int) (ds : List DlD) (av : List (List Int)) : KgD := if cgB P Q G ds av then ⟨quL P Q G ds av ds.length, (sdL P Q (qdL P Q G ds av ds.length)).c.headD 0, (sdL P Q (qdL P Q G ds av ds.length)).c, (sdL P Q (qdL P Q G ds av ds.length)).s⟩ else nilK
theorem cg_off {P Q G : Int} {ds : List DlD} {av : List (List Int)} (h : cgB P Q G ds av = false) : cgV P Q G ds av = nilK := by simp [cgV, h]
theorem cg_on {P Q G : Int} {ds : List DlD} {av : List (List Int)} (h : cgB P Q G ds av = true) : cgV P Q G ds av = ⟨quL P Q G ds av ds.length, (sdL P Q (qdL P Q G ds av ds.length)).c.headD 0, (sdL P Q (qdL P Q G ds av ds.length)).c, (sdL P Q (qdL P Q G ds av ds.length)).s⟩ := by simp [cgV, h]
theorem sdL_pos {P Q G : Int} {ds : List DlD} (h : sdB P Q G ds = true) : 0 < (sdL P Q ds).c.length := by
  rw [← sdK_all (P := P) (Q := Q) (k := ds.length) (by omega)]
  have hl := likeD_eq (sdK_like h ds.length)
  obtain ⟨_, ⟨h1, _⟩, h3⟩ := sd_facts h
  cases ds with
  | nil => simp at h1
  | cons d ds =>
    obtain ⟨⟨c1, _⟩, _⟩ := dlB_facts (h3 d (by simp)).1
    simp only [List.headD_cons] at hl
    omega
theorem cgV_bound (P Q G : Int) (ds : List DlD) (av : List (List Int)) : (cgV P Q G ds av).n ≤ 21 := by
  cases h : cgB P Q G ds av
  · rw [cg_off h]; simp [nilK, KgD.n]
  · rw [cg_on h]
    unfold cgB at h
    rw [Bool.and_eq_true] at h
    have h1 := (quL_length P Q G ds av ds.length).2
    have h2 := (ki_facts (ka_facts h.1).1).2.1.2
    have h3 := sdV_bound P Q G (qdL P Q G ds av ds.length)
    rw [sd_on (by rw [cg_sum h.1]; exact h.2)] at h3
    unfold KgD.n
    unfold DlD.n at h3
    simp only
    omega
/-- The settled dealings hold few numbers. -/
theorem nDs_qd {P Q G : Int} {ds : List DlD} {av : List (List Int)} (h : kaB P Q G ds av = true) : (qdL P Q G ds av ds.length).length ≤ 7 ∧ nDs (qdL P Q G ds av ds.length) ≤ 98 := by
  obtain ⟨h1, ⟨_, h7⟩, _⟩ := ki_facts (ka_facts h).1
  have hl := quL_length P Q G ds av ds.length
  have hq := qd_ok h ds.length (Nat.le_refl _)
  generalize qdL P Q G ds av ds.length = qd at *
  have hb : ∀ (l : List DlD), (∀ d ∈ l, dlB P Q d.c d.s = true ∧ likeD (ds.headD nilD) d = true) → nDs l ≤ l.length * 14 := by
    intro l
    induction l with
    | nil => intro _; simp [nDs]
    | cons d l ih =>
      intro hl
      obtain ⟨⟨_, c7⟩, _, s7, _⟩ := dlB_facts (hl d (by simp)).1
      have := ih (fun x hx => hl x (List.mem_cons_of_mem _ hx))
      rw [nDs_cons, List.length_cons]
      unfold DlD.n
      omega
  have := hb qd hq
  omega
def AnsK (w : World) (d : KgD) (ok : Bool) (e : Ending) (w' : World) : Prop := ∃ v, e = .returned (.tuple #[v, .bool ok]) ∧ OwK w.heap.size w'.heap.size w' v d ∧ Below w.heap.size w w'
theorem mid_four (w : World) (b : Nat) (x y z u : Value) : Mid b (b + 1) w ((((w.setCell ⟨b, 0, none⟩ x).setCell ⟨b, 1, none⟩ y).setCell ⟨b, 2, none⟩ z).setCell ⟨b, 3, none⟩ u) := (((mid_cell w b 0 x).trans (mid_cell _ b 1 y)).trans (mid_cell _ b 2 z)).trans (mid_cell _ b 3 u)

set_option maxRecDepth 100000 in
set_option maxHeartbeats 3200000 in
theorem combineKey_any (P Q G : Int) {B : Nat} {v : Value} {ds : List DlD} (hl : ds.length ≤ 1048576) (hr : nDs ds ≤ 1048576) {B2 : Nat} {u : Value} {av : List (List Int)} (hl2 : av.length ≤ 1048576) (hr2 : nS av ≤ 1048576) {w : World} (hz : InDs B w v ds) (hu : InS B2 w u av) :
    Calls Try.prog 14 #[gv P Q G, v, u] w (AnsK w (cgV P Q G ds av) (cgB P Q G ds av)) := by
  obtain ⟨la, lc, rfl⟩ := hz.shape
  obtain ⟨ua, uc, rfl⟩ := hu.shape
  have G_0 := Lib.hid ((gr_atS w w.heap.size rfl P Q G 24).below (ba (w.alloc (.cells #[.int .i64 P, .int .i64 Q, .int .i64 G] 24)) (.cells #[.slice none 0 0, .int .i64 0, .slice none 0 0, .slice none 0 0] 31)))
  have Z_0 := Lib.hid (vl_at (w.alloc (.cells #[.int .i64 P, .int .i64 Q, .int .i64 G] 24)) (w.heap.size + 1) (by simp) [.slice none 0 0, .int .i64 0, .slice none 0 0, .slice none 0 0] 31)
  have HB_0 := Lib.hid (show Below w.heap.size w ((w.alloc (.cells #[.int .i64 P, .int .i64 Q, .int .i64 G] 24)).alloc (.cells #[.slice none 0 0, .int .i64 0, .slice none 0 0, .slice none 0 0] 31)) from bt (ba _ _) (ba _ _))
  have L_0 := Lib.hid (hz.below HB_0.out)
  have U_0 := Lib.hid (hu.below HB_0.out)
  clear hz hu
  cases h0 : kaB P Q G ds av
  · have K0 := Lib.hid (show kaB P Q G ds av = false from h0)
    have E1 := Lib.hid (show cgB P Q G ds av = false by simp [cgB, h0])
    rw [E1.out, cg_off E1.out]
    clear h0
    obtain ⟨gG0, gG1, gG2⟩ := G_0.out
    have zZ0 := Z_0.out.1 0 _ rfl
    have zZ1 := Z_0.out.1 1 _ rfl
    have zZ2 := Z_0.out.1 2 _ rfl
    have zZ3 := Z_0.out.1 3 _ rfl
    have zfZ0 := Z_0.out.2.1 0
    have zfZ1 := Z_0.out.2.1 1
    have zfZ2 := Z_0.out.2.1 2
    have zfZ3 := Z_0.out.2.1 3
    go_enter Try.func14, Try.ntmps14
    go_wp2_with fail
    refine (areAnswered_any P Q G hl hr hl2 hr2 L_0.out U_0.out).mono ?_
    rw [K0.out]
    rintro e v1 ⟨rfl, hb⟩
    have HB_1 := Lib.hid (bt HB_0.out hb)
    have G_1 := Lib.hid (G_0.out.below hb)
    have Z_1 := Lib.hid (Z_0.out.below hb)
    have L_1 := Lib.hid (L_0.out.below hb)
    have U_1 := Lib.hid (U_0.out.below hb)
    clear hb gG0 gG1 gG2 zZ0 zZ1 zZ2 zZ3 zfZ0 zfZ1 zfZ2 zfZ3
    obtain ⟨gG0, gG1, gG2⟩ := G_1.out
    have zZ0 := Z_1.out.1 0 _ rfl
    have zZ1 := Z_1.out.1 1 _ rfl
    have zZ2 := Z_1.out.1 2 _ rfl
    have zZ3 := Z_1.out.1 3 _ rfl
    have zfZ0 := Z_1.out.2.1 0
    have zfZ1 := Z_1.out.2.1 1
    have zfZ2 := Z_1.out.2.1 2
    have zfZ3 := Z_1.out.2.1 3
    go_wp2
    (try simp only [Exit.inBlock, Exit.then])
    refine bodyPost_ret (v := .tuple #[.agg #[.slice none 0 0, .int .i64 0, .slice none 0 0, .slice none 0 0], .bool false]) ?_ rfl ?_
    · rw [results_cell_tmp rfl]; go_simp
    · have hm5 := mid_four v1 (w.heap.size + 1) (.slice none 0 0) (.int .i64 0) (.slice none 0 0) (.slice none 0 0)
      exact ⟨_, rfl, owK_nil _ _ (Nat.le_trans HB_1.out.size hm5.size), HB_1.out.trans (hm5.toBelow (by omega) HB_1.out.size)⟩
  have K0 := Lib.hid (show kaB P Q G ds av = true from h0)
  have E0 := Lib.hid h0
  have HSM := Lib.hid (cg_sum h0)
  have hnq := nDs_qd h0
  obtain ⟨hnq1, hnq2⟩ := hnq
  have HQL := Lib.hid (quL_length P Q G ds av ds.length)
  clear h0
  obtain ⟨qd, hqd⟩ : ∃ l, qdL P Q G ds av ds.length = l := ⟨_, rfl⟩
  obtain ⟨qs, hqs⟩ : ∃ l, quL P Q G ds av ds.length = l := ⟨_, rfl⟩
  rw [hqd] at HSM hnq1 hnq2 HQL
  rw [hqs] at HQL
  have HQD := Lib.hid hqd
  have HQS := Lib.hid hqs
  clear hqd hqs
  obtain ⟨gG0, gG1, gG2⟩ := G_0.out
  have zZ0 := Z_0.out.1 0 _ rfl
  have zZ1 := Z_0.out.1 1 _ rfl
  have zZ2 := Z_0.out.1 2 _ rfl
  have zZ3 := Z_0.out.1 3 _ rfl
  have zfZ0 := Z_0.out.2.1 0
  have zfZ1 := Z_0.out.2.1 1
  have zfZ2 := Z_0.out.2.1 2
  have zfZ3 := Z_0.out.2.1 3
  go_enter Try.func14, Try.ntmps14
  go_wp2_with fail
  refine (areAnswered_any P Q G hl hr hl2 hr2 L_0.out U_0.out).mono ?_
  rw [K0.out]
  rintro e v1 ⟨rfl, hb⟩
  have HB_1 := Lib.hid (bt HB_0.out hb)
  have G_1 := Lib.hid (G_0.out.below hb)
  have Z_1 := Lib.hid (Z_0.out.below hb)
  have L_1 := Lib.hid (L_0.out.below hb)
  have U_1 := Lib.hid (U_0.out.below hb)
  clear hb gG0 gG1 gG2 zZ0 zZ1 zZ2 zZ3 zfZ0 zfZ1 zfZ2 zfZ3
  obtain ⟨gG0, gG1, gG2⟩ := G_1.out
  have zZ0 := Z_1.out.1 0 _ rfl
  have zZ1 := Z_1.out.1 1 _ rfl
  have zZ2 := Z_1.out.1 2 _ rfl
  have zZ3 := Z_1.out.1 3 _ rfl
  have zfZ0 := Z_1.out.2.1 0
  have zfZ1 := Z_1.out.2.1 1
  have zfZ2 := Z_1.out.2.1 2
  have zfZ3 := Z_1.out.2.1 3
  go_wp2_with fail
  refine (settle_any P Q G hl hr hl2 hr2 L_1.out U_1.out E0.out).mono ?_
  rw [HQS.out, HQD.out]
  rintro e w4 ⟨q1, q2, rfl, hq, hi, hb4⟩
  obtain ⟨qa, qc, rfl⟩ := own_shape hq.1
  have HQ4 := Lib.hid (hq.wide (HB_1.out.size) (Nat.le_refl _) (Nat.le_refl _))
  have HI4 := Lib.hid hi
  have G_4 := Lib.hid (G_1.out.below hb4)
  have Z_4 := Lib.hid (Z_1.out.below hb4)
  have HB_4 := Lib.hid (bt HB_1.out hb4)
  have hqb := hq.2.2.2
  have LV := Lib.hid (show w.heap.size + 2 ≤ v1.heap.size from Z_1.out.lt)
  have HQ9 := Lib.hid hq
  clear hq hi hb4 gG0 gG1 gG2 zZ0 zfZ0 zZ1 zfZ1 zZ2 zfZ2 zZ3 zfZ3
  obtain ⟨gG0, gG1, gG2⟩ := G_4.out
  go_wp2_with fail
  refine (sumDealings_any P Q G (by omega) (by omega) HI4.out).mono ?_
  rintro e w5 ⟨sv, rfl, ⟨s1, s2, M, rfl, ho1, ho2⟩, hb5⟩
  obtain ⟨sa1, sc1, rfl⟩ := own_shape ho1.1
  obtain ⟨sa2, sc2, rfl⟩ := own_shape ho2.1
  cases hok : sdB P Q G qd
  · have E1 := Lib.hid (show cgB P Q G ds av = false by unfold cgB; rw [E0.out, HQD.out, ← HSM.out, hok]; rfl)
    generalize sdV P Q G qd = sd at *
    have HB_5 := Lib.hid (bt (bt HB_4.out hb5) (ba w5 (.cells #[.slice sa1 sd.c.length sc1, .slice sa2 sd.s.length sc2] 42)))
    have Z_5 := Lib.hid ((Z_4.out.below hb5).below (ba w5 (.cells #[.slice sa1 sd.c.length sc1, .slice sa2 sd.s.length sc2] 42)))
    clear hok ho1 ho2 hb5 gG0 gG1 gG2
    have y0 := Z_5.out.1 0 _ rfl
    have y1 := Z_5.out.1 1 _ rfl
    have y2 := Z_5.out.1 2 _ rfl
    have y3 := Z_5.out.1 3 _ rfl
    have yf0 := Z_5.out.2.1 0
    have yf1 := Z_5.out.2.1 1
    have yf2 := Z_5.out.2.1 2
    have yf3 := Z_5.out.2.1 3
    go_wp2
    (try simp only [Exit.inBlock, Exit.then])
    refine bodyPost_ret (v := .tuple #[.agg #[.slice none 0 0, .int .i64 0, .slice none 0 0, .slice none 0 0], .bool false]) ?_ rfl ?_
    · rw [results_cell_tmp rfl]; go_simp
    · have hm5 := mid_four (w5.alloc (.cells #[.slice sa1 sd.c.length sc1, .slice sa2 sd.s.length sc2] 42)) (w.heap.size + 1) (.slice none 0 0) (.int .i64 0) (.slice none 0 0) (.slice none 0 0)
      rw [E1.out, cg_off E1.out]
      exact ⟨_, rfl, owK_nil _ _ (Nat.le_trans HB_5.out.size hm5.size), HB_5.out.trans (hm5.toBelow (by omega) HB_5.out.size)⟩
  · have E1 := Lib.hid (show cgB P Q G ds av = true by unfold cgB; rw [E0.out, HQD.out, ← HSM.out, hok]; rfl)
    have EV := Lib.hid (show cgV P Q G ds av = ⟨qs, (sdL P Q qd).c.headD 0, (sdL P Q qd).c, (sdL P Q qd).s⟩ by rw [cg_on E1.out, HQS.out, HQD.out])
    have hpos := sdL_pos hok
    rw [sd_on hok] at ho1 ho2 ⊢
    generalize sdL P Q qd = sd at *
    generalize hky : sd.c.headD 0 = ky at *
    obtain ⟨g, rfl⟩ := owI_some ho1 hpos
    have hmm := ho1.2.2.2
    have hmm2 := ho2.2.2.2
    have ha9 := ba w5 (.cells #[.slice (some ⟨g, 0, none⟩) sd.c.length sc1, .slice sa2 sd.s.length sc2] 42)
    have HB_5 := Lib.hid (bt (bt HB_4.out hb5) ha9)
    have Z_5 := Lib.hid ((Z_4.out.below hb5).below ha9)
    have S_5 := Lib.hid (v2_at w5 w5.heap.size rfl (.slice (some ⟨g, 0, none⟩) sd.c.length sc1) (.slice sa2 sd.s.length sc2) 42)
    have O1 := Lib.hid (ho1.below ha9)
    have O2 := Lib.hid (ho2.below ha9)
    have OQ := Lib.hid ((HQ9.out.below hb5).below ha9)
    have hw45 := hb5.size
    obtain ⟨hc0, _⟩ := owI_at (j := 0) (z := ky) O1.out (by rw [← hky]; exact head_get hpos)
    clear hok ho1 ho2 hb5 gG0 gG1 gG2 ha9 hky
    obtain ⟨u0, u1, _⟩ := S_5.out
    have y0 := Z_5.out.1 0 _ rfl
    have y1 := Z_5.out.1 1 _ rfl
    have y2 := Z_5.out.1 2 _ rfl
    have y3 := Z_5.out.1 3 _ rfl
    have yf0 := Z_5.out.2.1 0
    have yf1 := Z_5.out.2.1 1
    have yf2 := Z_5.out.2.1 2
    have yf3 := Z_5.out.2.1 3
    have hqn := HQ9.out.2.2.1
    have LV9 := LV.out
    go_wp2
    go_region
    all_goals (
      go_wp2
      (try simp only [Exit.inBlock, Exit.then])
      refine bodyPost_ret (v := .tuple #[.agg #[.slice qa qs.length qc, .int .i64 ky, .slice (some ⟨g, 0, none⟩) sd.c.length sc1, .slice sa2 sd.s.length sc2], .bool true]) ?_ rfl ?_
      · rw [results_cell_tmp rfl]; go_simp
      · have hm5 := mid_four (w5.alloc (.cells #[.slice (some ⟨g, 0, none⟩) sd.c.length sc1, .slice sa2 sd.s.length sc2] 42)) (w.heap.size + 1) (.slice qa qs.length qc) (.int .i64 ky) (.slice (some ⟨g, 0, none⟩) sd.c.length sc1) (.slice sa2 sd.s.length sc2)
        rw [E1.out, EV.out]
        have h1 := OQ.out.mid hm5 (.inr (by omega))
        have h2 := O1.out.mid hm5 (.inr (by omega))
        have h3 := O2.out.mid hm5 (.inr (by omega))
        have hB9 := HB_5.out.trans (hm5.toBelow (by omega) HB_5.out.size)
        have hK9 : OwK w.heap.size _ _ (.agg #[.slice qa qs.length qc, .int .i64 ky, .slice (some ⟨g, 0, none⟩) sd.c.length sc1, .slice sa2 sd.s.length sc2]) ⟨qs, ky, sd.c, sd.s⟩ := ⟨_, _, _, w4.heap.size, M, rfl, h1.wide (by omega) (Nat.le_refl _) h1.2.2.1, h2, h3.wide (Nat.le_refl _) (h3.le) (Nat.le_refl _)⟩
        refine ⟨_, rfl, ?_, ?_⟩
        · first | with_reducible exact hK9 | with_reducible exact hK9.below (Below.refl _ _).drew | exact hK9.below (Below.refl _ _).drew
        · first | with_reducible exact hB9 | with_reducible exact hB9.drew | exact hB9.drew)

set_option maxRecDepth 100000 in
set_option maxHeartbeats 3200000 in
theorem kgCombine_any (P Q G : Int) {B : Nat} {v : Value} {ds : List DlD} (hl : ds.length ≤ 1048576) (hr : nDs ds ≤ 1048576) {B2 : Nat} {u : Value} {av : List (List Int)} (hl2 : av.length ≤ 1048576) (hr2 : nS av ≤ 1048576) {w : World} (hz : InDs B w v ds) (hu : InS B2 w u av) (hk : kaB P Q G ds av = true) :
    Calls Try.prog 70 #[gv P Q G, v, u] w (AnsK w (cgV P Q G ds av) (cgB P Q G ds av)) := by
  obtain ⟨la, lc, rfl⟩ := hz.shape
  obtain ⟨ua, uc, rfl⟩ := hu.shape
  have G_0 := Lib.hid ((gr_atS w w.heap.size rfl P Q G 24).below (ba (w.alloc (.cells #[.int .i64 P, .int .i64 Q, .int .i64 G] 24)) (.cells #[.slice none 0 0, .int .i64 0, .slice none 0 0, .slice none 0 0] 31)))
  have Z_0 := Lib.hid (vl_at (w.alloc (.cells #[.int .i64 P, .int .i64 Q, .int .i64 G] 24)) (w.heap.size + 1) (by simp) [.slice none 0 0, .int .i64 0, .slice none 0 0, .slice none 0 0] 31)
  have HB_0 := Lib.hid (show Below w.heap.size w ((w.alloc (.cells #[.int .i64 P, .int .i64 Q, .int .i64 G] 24)).alloc (.cells #[.slice none 0 0, .int .i64 0, .slice none 0 0, .slice none 0 0] 31)) from bt (ba _ _) (ba _ _))
  have L_0 := Lib.hid (hz.below HB_0.out)
  have U_0 := Lib.hid (hu.below HB_0.out)
  clear hz hu
  have E0 := Lib.hid hk
  have HSM := Lib.hid (cg_sum hk)
  obtain ⟨hnq1, hnq2⟩ := nDs_qd hk
  have HQL := Lib.hid (quL_length P Q G ds av ds.length)
  clear hk
  obtain ⟨qd, hqd⟩ : ∃ l, qdL P Q G ds av ds.length = l := ⟨_, rfl⟩
  obtain ⟨qs, hqs⟩ : ∃ l, quL P Q G ds av ds.length = l := ⟨_, rfl⟩
  rw [hqd] at HSM hnq1 hnq2 HQL
  rw [hqs] at HQL
  have HQD := Lib.hid hqd
  have HQS := Lib.hid hqs
  clear hqd hqs
  obtain ⟨gG0, gG1, gG2⟩ := G_0.out
  go_enter Try.func70, Try.ntmps70
  go_wp2_with fail
  refine (kgQualified_any P Q G hl hr hl2 hr2 L_0.out U_0.out E0.out).mono ?_
  rw [HQS.out, HQD.out]
  rintro e w4 ⟨q1, q2, rfl, hq, hi, hb4⟩
  obtain ⟨qa, qc, rfl⟩ := own_shape hq.1
  have HQ4 := Lib.hid (hq.wide (HB_0.out.size) (Nat.le_refl _) (Nat.le_refl _))
  have HI4 := Lib.hid hi
  have G_4 := Lib.hid (G_0.out.below hb4)
  have Z_4 := Lib.hid (Z_0.out.below hb4)
  have HB_4 := Lib.hid (bt HB_0.out hb4)
  have hqb := hq.2.2.2
  have LV := Lib.hid (show w.heap.size + 2 ≤ ((w.alloc (.cells #[.int .i64 P, .int .i64 Q, .int .i64 G] 24)).alloc (.cells #[.slice none 0 0, .int .i64 0, .slice none 0 0, .slice none 0 0] 31)).heap.size from Z_0.out.lt)
  have HQ9 := Lib.hid hq
  obtain ⟨gG0, gG1, gG2⟩ := G_4.out
  clear hq hi hb4 gG0 gG1 gG2
  obtain ⟨gG0, gG1, gG2⟩ := G_4.out
  have hqm := HQL.out.1
  by_cases h0 : qd.length = 0
  · have E1 := Lib.hid (show cgB P Q G ds av = false by unfold cgB; rw [E0.out, HQD.out, decide_eq_false (by omega)]; rfl)
    have hq0 : ((qs.length : Int) == 0) = true := by simp only [beq_iff_eq]; omega
    clear h0 hqm
    have y0 := Z_4.out.1 0 _ rfl
    have y1 := Z_4.out.1 1 _ rfl
    have y2 := Z_4.out.1 2 _ rfl
    have y3 := Z_4.out.1 3 _ rfl
    have yf0 := Z_4.out.2.1 0
    have yf1 := Z_4.out.2.1 1
    have yf2 := Z_4.out.2.1 2
    have yf3 := Z_4.out.2.1 3
    go_wp2
    (try simp only [Exit.inBlock, Exit.then])
    refine bodyPost_ret (v := .tuple #[.agg #[.slice none 0 0, .int .i64 0, .slice none 0 0, .slice none 0 0], .bool false]) ?_ rfl ?_
    · rw [results_cell_tmp rfl]; go_simp
    · have hm5 := mid_four w4 (w.heap.size + 1) (.slice none 0 0) (.int .i64 0) (.slice none 0 0) (.slice none 0 0)
      rw [E1.out, cg_off E1.out]
      exact ⟨_, rfl, owK_nil _ _ (Nat.le_trans HB_4.out.size hm5.size), HB_4.out.trans (hm5.toBelow (by omega) HB_4.out.size)⟩
  · have hok : sdB P Q G qd = true := by rw [HSM.out, decide_eq_true (by omega)]
    have HOK := Lib.hid hok
    have hq0 : ((qs.length : Int) == 0) = false := by simp only [beq_eq_false_iff_ne, ne_eq]; omega
    have hpos := sdL_pos hok
    have E1 := Lib.hid (show cgB P Q G ds av = true by unfold cgB; rw [E0.out, HQD.out, decide_eq_true (by omega)]; rfl)
    have EV := Lib.hid (show cgV P Q G ds av = ⟨qs, (sdL P Q qd).c.headD 0, (sdL P Q qd).c, (sdL P Q qd).s⟩ by rw [cg_on E1.out, HQS.out, HQD.out])
    clear h0 hqm hok
    go_wp2_with fail
    refine (sSum_any P Q G (by omega) (by omega) HI4.out HOK.out).mono ?_
    rintro e w5 ⟨sv, rfl, ⟨s1, s2, M, rfl, ho1, ho2⟩, hb5⟩
    obtain ⟨sa1, sc1, rfl⟩ := own_shape ho1.1
    obtain ⟨sa2, sc2, rfl⟩ := own_shape ho2.1
    generalize sdL P Q qd = sd at *
    generalize hky : sd.c.headD 0 = ky at *
    obtain ⟨g, rfl⟩ := owI_some ho1 hpos
    have hmm := ho1.2.2.2
    have hmm2 := ho2.2.2.2
    have ha9 := ba w5 (.cells #[.slice (some ⟨g, 0, none⟩) sd.c.length sc1, .slice sa2 sd.s.length sc2] 42)
    have HB_5 := Lib.hid (bt (bt HB_4.out hb5) ha9)
    have Z_5 := Lib.hid ((Z_4.out.below hb5).below ha9)
    have S_5 := Lib.hid (v2_at w5 w5.heap.size rfl (.slice (some ⟨g, 0, none⟩) sd.c.length sc1) (.slice sa2 sd.s.length sc2) 42)
    have O1 := Lib.hid (ho1.below ha9)
    have O2 := Lib.hid (ho2.below ha9)
    have OQ := Lib.hid ((HQ9.out.below hb5).below ha9)
    have hw45 := hb5.size
    obtain ⟨hc0, _⟩ := owI_at (j := 0) (z := ky) O1.out (by rw [← hky]; exact head_get hpos)
    clear ho1 ho2 hb5 gG0 gG1 gG2 ha9 hky
    obtain ⟨u0, u1, _⟩ := S_5.out
    have y0 := Z_5.out.1 0 _ rfl
    have y1 := Z_5.out.1 1 _ rfl
    have y2 := Z_5.out.1 2 _ rfl
    have y3 := Z_5.out.1 3 _ rfl
    have yf0 := Z_5.out.2.1 0
    have yf1 := Z_5.out.2.1 1
    have yf2 := Z_5.out.2.1 2
    have yf3 := Z_5.out.2.1 3
    have hqn := HQ9.out.2.2.1
    have LV9 := LV.out
    go_wp2
    go_region
    all_goals (
      go_wp2
      (try simp only [Exit.inBlock, Exit.then])
      refine bodyPost_ret (v := .tuple #[.agg #[.slice qa qs.length qc, .int .i64 ky, .slice (some ⟨g, 0, none⟩) sd.c.length sc1, .slice sa2 sd.s.length sc2], .bool true]) ?_ rfl ?_
      · rw [results_cell_tmp rfl]; go_simp
      · have hm5 := mid_four (w5.alloc (.cells #[.slice (some ⟨g, 0, none⟩) sd.c.length sc1, .slice sa2 sd.s.length sc2] 42)) (w.heap.size + 1) (.slice qa qs.length qc) (.int .i64 ky) (.slice (some ⟨g, 0, none⟩) sd.c.length sc1) (.slice sa2 sd.s.length sc2)
        rw [E1.out, EV.out]
        have h1 := OQ.out.mid hm5 (.inr (by omega))
        have h2 := O1.out.mid hm5 (.inr (by omega))
        have h3 := O2.out.mid hm5 (.inr (by omega))
        have hB9 := HB_5.out.trans (hm5.toBelow (by omega) HB_5.out.size)
        have hK9 : OwK w.heap.size _ _ (.agg #[.slice qa qs.length qc, .int .i64 ky, .slice (some ⟨g, 0, none⟩) sd.c.length sc1, .slice sa2 sd.s.length sc2]) ⟨qs, ky, sd.c, sd.s⟩ := ⟨_, _, _, w4.heap.size, M, rfl, h1.wide (by omega) (Nat.le_refl _) h1.2.2.1, h2, h3.wide (Nat.le_refl _) (h3.le) (Nat.le_refl _)⟩
        refine ⟨_, rfl, ?_, ?_⟩
        · first | with_reducible exact hK9 | with_reducible exact hK9.below (Below.refl _ _).drew | exact hK9.below (Below.refl _ _).drew
        · first | with_reducible exact hB9 | with_reducible exact hB9.drew | exact hB9.drew)

set_option maxRecDepth 100000 in
set_option maxHeartbeats 3200000 in
theorem sCombineKey_any (P Q G : Int) {B : Nat} {v : Value} {ds : List DlD} (hl : ds.length ≤ 1048576) (hr : nDs ds ≤ 1048576) {B2 : Nat} {u : Value} {av : List (List Int)} (hl2 : av.length ≤ 1048576) (hr2 : nS av ≤ 1048576) {w : World} (hz : InDs B w v ds) (hu : InS B2 w u av) :
    Calls Try.prog 15 #[gv P Q G, v, u] w (AnsK w (cgV P Q G ds av) (cgB P Q G ds av)) := by
  obtain ⟨la, lc, rfl⟩ := hz.shape
  obtain ⟨ua, uc, rfl⟩ := hu.shape
  have G_0 := Lib.hid ((gr_atS w w.heap.size rfl P Q G 24).below (ba (w.alloc (.cells #[.int .i64 P, .int .i64 Q, .int .i64 G] 24)) (.cells #[.slice none 0 0, .int .i64 0, .slice none 0 0, .slice none 0 0] 31)))
  have Z_0 := Lib.hid (vl_at (w.alloc (.cells #[.int .i64 P, .int .i64 Q, .int .i64 G] 24)) (w.heap.size + 1) (by simp) [.slice none 0 0, .int .i64 0, .slice none 0 0, .slice none 0 0] 31)
  have HB_0 := Lib.hid (show Below w.heap.size w ((w.alloc (.cells #[.int .i64 P, .int .i64 Q, .int .i64 G] 24)).alloc (.cells #[.slice none 0 0, .int .i64 0, .slice none 0 0, .slice none 0 0] 31)) from bt (ba _ _) (ba _ _))
  have L_0 := Lib.hid (hz.below HB_0.out)
  have U_0 := Lib.hid (hu.below HB_0.out)
  clear hz hu
  cases h0 : kaB P Q G ds av
  · have K0 := Lib.hid (show kaB P Q G ds av = false from h0)
    have E1 := Lib.hid (show cgB P Q G ds av = false by simp [cgB, h0])
    rw [E1.out, cg_off E1.out]
    clear h0
    obtain ⟨gG0, gG1, gG2⟩ := G_0.out
    have zZ0 := Z_0.out.1 0 _ rfl
    have zZ1 := Z_0.out.1 1 _ rfl
    have zZ2 := Z_0.out.1 2 _ rfl
    have zZ3 := Z_0.out.1 3 _ rfl
    have zfZ0 := Z_0.out.2.1 0
    have zfZ1 := Z_0.out.2.1 1
    have zfZ2 := Z_0.out.2.1 2
    have zfZ3 := Z_0.out.2.1 3
    go_enter Try.func15, Try.ntmps15
    go_wp2_with fail
    refine (kgAnswers_any P Q G hl hr hl2 hr2 L_0.out U_0.out).mono ?_
    rw [K0.out]
    rintro e v1 ⟨rfl, hb⟩
    have HB_1 := Lib.hid (bt HB_0.out hb)
    have G_1 := Lib.hid (G_0.out.below hb)
    have Z_1 := Lib.hid (Z_0.out.below hb)
    have L_1 := Lib.hid (L_0.out.below hb)
    have U_1 := Lib.hid (U_0.out.below hb)
    clear hb gG0 gG1 gG2 zZ0 zZ1 zZ2 zZ3 zfZ0 zfZ1 zfZ2 zfZ3
    obtain ⟨gG0, gG1, gG2⟩ := G_1.out
    have zZ0 := Z_1.out.1 0 _ rfl
    have zZ1 := Z_1.out.1 1 _ rfl
    have zZ2 := Z_1.out.1 2 _ rfl
    have zZ3 := Z_1.out.1 3 _ rfl
    have zfZ0 := Z_1.out.2.1 0
    have zfZ1 := Z_1.out.2.1 1
    have zfZ2 := Z_1.out.2.1 2
    have zfZ3 := Z_1.out.2.1 3
    go_wp2
    (try simp only [Exit.inBlock, Exit.then])
    refine bodyPost_ret (v := .tuple #[.agg #[.slice none 0 0, .int .i64 0, .slice none 0 0, .slice none 0 0], .bool false]) ?_ rfl ?_
    · rw [results_cell_tmp rfl]; go_simp
    · have hm5 := mid_four v1 (w.heap.size + 1) (.slice none 0 0) (.int .i64 0) (.slice none 0 0) (.slice none 0 0)
      exact ⟨_, rfl, owK_nil _ _ (Nat.le_trans HB_1.out.size hm5.size), HB_1.out.trans (hm5.toBelow (by omega) HB_1.out.size)⟩
  have K0 := Lib.hid (show kaB P Q G ds av = true from h0)
  have E0 := Lib.hid h0
  clear h0
  obtain ⟨gG0, gG1, gG2⟩ := G_0.out
  have zZ0 := Z_0.out.1 0 _ rfl
  have zZ1 := Z_0.out.1 1 _ rfl
  have zZ2 := Z_0.out.1 2 _ rfl
  have zZ3 := Z_0.out.1 3 _ rfl
  have zfZ0 := Z_0.out.2.1 0
  have zfZ1 := Z_0.out.2.1 1
  have zfZ2 := Z_0.out.2.1 2
  have zfZ3 := Z_0.out.2.1 3
  go_enter Try.func15, Try.ntmps15
  go_wp2_with fail
  refine (kgAnswers_any P Q G hl hr hl2 hr2 L_0.out U_0.out).mono ?_
  rw [K0.out]
  rintro e v1 ⟨rfl, hb⟩
  have HB_1 := Lib.hid (bt HB_0.out hb)
  have G_1 := Lib.hid (G_0.out.below hb)
  have Z_1 := Lib.hid (Z_0.out.below hb)
  have L_1 := Lib.hid (L_0.out.below hb)
  have U_1 := Lib.hid (U_0.out.below hb)
  clear hb gG0 gG1 gG2 zZ0 zZ1 zZ2 zZ3 zfZ0 zfZ1 zfZ2 zfZ3
  obtain ⟨gG0, gG1, gG2⟩ := G_1.out
  have zZ0 := Z_1.out.1 0 _ rfl
  have zZ1 := Z_1.out.1 1 _ rfl
  have zZ2 := Z_1.out.1 2 _ rfl
  have zZ3 := Z_1.out.1 3 _ rfl
  have zfZ0 := Z_1.out.2.1 0
  have zfZ1 := Z_1.out.2.1 1
  have zfZ2 := Z_1.out.2.1 2
  have zfZ3 := Z_1.out.2.1 3
  go_wp2_with fail
  refine (kgCombine_any P Q G hl hr hl2 hr2 L_1.out U_1.out E0.out).mono ?_
  rintro e w4 ⟨kvz, rfl, hk9, hb4⟩
  generalize hrv : cgV P Q G ds av = res at *
  generalize hok : cgB P Q G ds av = ok at *
  obtain ⟨k0, k1, k2, k3, k4, k5, hsh, _, _, _⟩ := hk9.toIn.shape
  subst hsh
  have HK9 := Lib.hid hk9
  have Z_4 := Lib.hid (Z_1.out.below hb4)
  have HB_4 := Lib.hid (bt HB_1.out hb4)
  have LV := Lib.hid (show w.heap.size + 2 ≤ v1.heap.size from Z_1.out.lt)
  have HRV := Lib.hid hrv
  have HOK := Lib.hid hok
  clear hk9 hb4 hrv hok gG0 gG1 gG2 zZ0 zfZ0 zZ1 zfZ1 zZ2 zfZ2 zZ3 zfZ3
  have y0 := Z_4.out.1 0 _ rfl
  have y1 := Z_4.out.1 1 _ rfl
  have y2 := Z_4.out.1 2 _ rfl
  have y3 := Z_4.out.1 3 _ rfl
  have yf0 := Z_4.out.2.1 0
  have yf1 := Z_4.out.2.1 1
  have yf2 := Z_4.out.2.1 2
  have yf3 := Z_4.out.2.1 3
  go_wp2
  (try simp only [Exit.inBlock, Exit.then])
  refine bodyPost_ret (v := .tuple #[.agg #[.slice k0 res.q.length k1, .int .i64 res.k, .slice k2 res.c.length k3, .slice k4 res.s.length k5], .bool ok]) ?_ rfl ?_
  · rw [results_cell_tmp rfl]; go_simp
  · have hm5 := mid_four w4 (w.heap.size + 1) (.slice k0 res.q.length k1) (.int .i64 res.k) (.slice k2 res.c.length k3) (.slice k4 res.s.length k5)
    have lv := LV.out
    have hwl := HB_1.out.size
    have h1 := HK9.out.mid hm5 (.inr (by omega))
    exact ⟨_, rfl, h1.wide hwl hm5.size (Nat.le_refl _), HB_4.out.trans (hm5.toBelow (by omega) HB_4.out.size)⟩

end Go.Proofs.Ytchlnkdlnfjijaa

