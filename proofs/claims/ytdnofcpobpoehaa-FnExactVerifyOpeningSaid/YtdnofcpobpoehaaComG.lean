/- Plain facts for claims about commitments: one linear statement whose challenge is made of other elements. -/
import Derived.Test.YtdnofcpobpoehaaComF
import Derived.Test.YtdnofcpobpoehaaSigF
import Derived.Test.YtdnofcpobpoehaaSigV
import Derived.Deep.RegionHeld3
namespace Go.Proofs.Ytdnofcpobpoehaa
open Go.RowKit
set_option linter.unusedVariables false
set_option linter.unusedSimpArgs false

def svE (P Q G : Int) (s : ByteArray) (el : List Int) (rows : List (List Int)) (im : List Int) (p : PrD) : Bool :=
  decide (p.c.length = rows.length) && (decide (p.h.length = 1) && (decide (p.r.length = wid rows) && (allEl P Q p.c && (allIn p.r 0 (Q - 1) && (decide (p.h.headD 0 = chX P Q G s (el ++ p.c)) && rowOk P (p.h.headD 0) p.r rows p.c im)))))
theorem svE_true {P Q G : Int} {s : ByteArray} {el : List Int} {rows : List (List Int)} {im : List Int} {p : PrD} : svE P Q G s el rows im p = true ↔ p.c.length = rows.length ∧ p.h.length = 1 ∧ p.r.length = wid rows ∧ allEl P Q p.c = true ∧ allIn p.r 0 (Q - 1) = true ∧ p.h.headD 0 = chX P Q G s (el ++ p.c) ∧ rowOk P (p.h.headD 0) p.r rows p.c im = true := by
  simp [svE]
theorem vr_clm {P Q G : Int} {s : ByteArray} {el : List Int} {rows : List (List Int)} {im : List Int} {p : PrD} (h : vrB P Q G s (.clm [(rows, im)] el) = true) :
    vrV P Q G s (.clm [(rows, im)] el) p = svE P Q G s el rows im p := by
  have hv := h
  simp only [vrB, St.ok, Bool.and_eq_true, decide_eq_true_eq, List.all_cons, List.all_nil, Bool.and_true] at h
  obtain ⟨hg, _, _, ⟨hr, hl, hi⟩, _⟩ := h
  obtain ⟨h1, h2, h3⟩ := rowsB_true.1 hr
  have hQ : 0 < Q := by have := goodB_true.1 hg; omega
  have hn : nRows (St.clm [(rows, im)] el).parts = rows.length ∧ nCols (St.clm [(rows, im)] el).parts = wid rows ∧ (St.clm [(rows, im)] el).parts.length = 1 := by
    simp [St.parts, nRows, nCols]
  have hx := chX_rng (P := P) (G := G) (s := s) (zs := el ++ p.c) hQ
  have hm : ∀ e, 0 ≤ e ∧ e < Q → (missV P Q G s (.clm [(rows, im)] el) p.c [e] = 0 ↔ e = chX P Q G s (el ++ p.c)) := by
    intro e he'
    unfold missV St.els
    rw [sub_zero_iff hQ hx]
    show (0 + e) % Q = _ ↔ _
    rw [Int.zero_add, Int.emod_eq_of_lt he'.1 he'.2]
  have hcm : ∀ e, p.r.length = wid rows → cmts P Q (St.clm [(rows, im)] el).parts [e] p.r = List.zipWith (fun x y => decW P Q y x e) (imgs P rows p.r) im := by
    intro e c3
    show List.zipWith _ (imgs P rows (p.r.take (wid rows))) im ++ cmts P Q [] [] _ = _
    rw [List.take_of_length_le (by omega)]
    simp [cmts]
  rw [Bool.eq_iff_iff, vrV_true, formB_true, svE_true, hn.1, hn.2.1, hn.2.2]
  constructor
  · rintro ⟨_, ⟨c1, c4, c2, c6, c3, c5⟩, b, c⟩
    rw [elsB_all (by omega)] at c4
    rw [exsB'_all (by omega)] at c5 c6
    obtain ⟨e, he⟩ := List.length_eq_one_iff.1 c2
    rw [he] at c6 b c ⊢
    rw [hcm e c3] at c
    simp only [allIn, List.all_cons, List.all_nil, Bool.and_true] at c6
    have he' := inB_true.1 c6
    exact ⟨c1, rfl, c3, c4, c5, (hm e ⟨he'.1, by omega⟩).1 b, (rowOk_iff hg he'.1 _ c5 rows p.c im c1 hl (fun r hr => (h3 r hr).2) c4 hi).2 c⟩
  · rintro ⟨c1, c2, c3, c4, c5, a, b⟩
    obtain ⟨e, he⟩ := List.length_eq_one_iff.1 c2
    rw [he] at a b ⊢
    simp only [List.headD_cons] at a b
    have he' : 0 ≤ e ∧ e < Q := by rw [a]; exact hx
    refine ⟨hv, ⟨c1, by rw [elsB_all (by omega)]; exact c4, rfl, ?_, c3, by rw [exsB'_all (by omega)]; exact c5⟩, (hm e he').2 a, ?_⟩
    · rw [exsB'_all (by simp)]
      simp only [allIn, List.all_cons, List.all_nil, Bool.and_true]
      exact inB_true.2 ⟨he'.1, by omega⟩
    · rw [hcm e c3]
      exact (rowOk_iff hg he'.1 _ c5 rows p.c im c1 hl (fun r hr => (h3 r hr).2) c4 hi).1 b

/-- What the prover makes of it. -/
def spE (P Q G : Int) (s : ByteArray) (el : List Int) (rows : List (List Int)) (xs cs : List Int) : PrD :=
  let e := chX P Q G s (el ++ imgs P rows cs)
  ⟨imgs P rows cs, [e], sxpy Q cs e xs⟩
theorem cpl_clm {P Q G : Int} {s : ByteArray} {el : List Int} {rows : List (List Int)} {xs cs : List Int} (h1 : imB P Q G rows xs = true) (h2 : cs.length = xs.length) (h3 : allIn cs 0 (Q - 1) = true) :
    cplP P Q G s (.clm [(rows, imgs P rows xs)] el) [0] cs 0 xs = spE P Q G s el rows xs cs := by
  obtain ⟨hg, hr, hl, he⟩ := imB_true.1 h1
  have hQ : 0 < Q := by have := goodB_true.1 hg; omega
  have h4 : imB P Q G rows cs = true := imB_true.2 ⟨hg, hr, by omega, h3⟩
  have e1 : cmts P Q (St.clm [(rows, imgs P rows xs)] el).parts [0] cs = imgs P rows cs := by
    simp only [St.parts, cmts, List.append_nil]
    rw [List.take_of_length_le (by omega), zip_zero hg _ _ (by simp [imgs_length]) (imgs_el h4) (imgs_el h1)]
  have hx := chX_rng (P := P) (G := G) (s := s) (zs := el ++ imgs P rows cs) hQ
  have e2 : missV P Q G s (.clm [(rows, imgs P rows xs)] el) (imgs P rows cs) [0] = chX P Q G s (el ++ imgs P rows cs) := by
    unfold missV St.els
    show (chX P Q G s _ - 0 + Q) % Q = _
    rw [Int.sub_zero, Int.add_emod_right, Int.emod_eq_of_lt hx.1 hx.2]
  unfold cplP spE
  simp only [e1, e2, Nat.zero_mul, List.take_zero, List.drop_zero, List.nil_append, List.set_cons_zero]

/-! ### Openings -/
abbrev opL : ByteArray := { data := #[111, 112, 101, 110, 105, 110, 103] }
abbrev opS (G H c : Int) : St := .clm [([[G, H]], [c])] [H, c]
theorem el_sm {P Q G x : Int} (hg : goodB P Q G = true) (h : elB P Q x = true) : 0 ≤ x ∧ x ≤ 2000000000 := by
  have := el_rng h
  have := (good_mo hg).1
  omega
theorem op_ok {P Q G H c : Int} (hg : goodB P Q G = true) (hH : elB P Q H = true) (hc : elB P Q c = true) : (opS G H c).ok P Q = true := by
  have hG := good_el hg
  have h1 := el_sm hg hH
  have h2 := el_sm hg hc
  simp [St.ok, rowsB, rowB, wid, allEl, smB, hG, hH, hc, h1, h2]
def voB (P Q G H : Int) (hs : List Int) (c : Int) : Bool := bsB P Q G H hs && elB P Q c
def voV (P Q G H : Int) (hs : List Int) (c : Int) (p : PrD) : Bool := voB P Q G H hs c && vrV P Q G opL (opS G H c) p
def opB (P Q G H : Int) (hs : List Int) (m r : Int) (cs : List Int) : Bool := cmB P Q G H hs m r && (decide (cs.length = 2) && allIn cs 0 (Q - 1))
def opP (P Q G H m r : Int) (cs : List Int) : PrD := spE P Q G opL [H, cmW P G H m r] [[G, H]] [m, r] cs
def opV (P Q G H : Int) (hs : List Int) (m r : Int) (cs : List Int) : PrD := if opB P Q G H hs m r cs then opP P Q G H m r cs else nilP
theorem op_off {P Q G H : Int} {hs : List Int} {m r : Int} {cs : List Int} (h : opB P Q G H hs m r cs = false) : opV P Q G H hs m r cs = nilP := by simp [opV, h]
theorem vo_ref {P Q G H : Int} {hs : List Int} {c : Int} {p : PrD} (h : voB P Q G H hs c = true) : voV P Q G H hs c p = svE P Q G opL [H, c] [[G, H]] [c] p := by
  unfold voV
  rw [h, Bool.true_and]
  unfold voB at h
  rw [Bool.and_eq_true] at h
  have hb := bs_true.1 h.1
  exact vr_clm (by unfold vrB; rw [hb.1, op_ok hb.1 hb.2.1.2 h.2]; rfl)
theorem op_img {P G H m r : Int} (hP : 2 ≤ P) : imgs P [[G, H]] [m, r] = [cmW P G H m r] := by
  simp only [imgs, List.map_cons, List.map_nil, pows_two hP]; rfl
theorem op_cpl {P Q G H : Int} {hs : List Int} {m r : Int} {cs : List Int} (h : opB P Q G H hs m r cs = true) :
    cplP P Q G opL (opS G H (cmW P G H m r)) [0] cs 0 [m, r] = opP P Q G H m r cs := by
  unfold opB at h
  simp only [Bool.and_eq_true, decide_eq_true_eq] at h
  obtain ⟨h1, h2, h3⟩ := h
  have hb := bs_true.1 (cm_bs h1)
  have h4 : allIn [m, r] 0 (Q - 1) = true := by unfold cmB at h1; rw [Bool.and_eq_true] at h1; exact h1.2
  have hP := (good_mo hb.1).1.1
  have hi : imB P Q G [[G, H]] [m, r] = true := by
    refine imB_true.2 ⟨hb.1, ?_, rfl, h4⟩
    simp [rowsB, rowB, wid, allEl, good_el hb.1, hb.2.1.2]
  have := cpl_clm (s := opL) (el := [H, cmW P G H m r]) (cs := cs) hi h2 h3
  rwa [op_img hP] at this

end Go.Proofs.Ytdnofcpobpoehaa

/- Chapter 9, the program: proofs of openings. -/
namespace Go.Proofs.Ytdnofcpobpoehaa
open Go.RowKit
set_option linter.unusedVariables false
set_option linter.unusedSimpArgs false

theorem opn_kp {W : World} {lo b3 b4 b5 b7 b8 : Nat} {G H c : Int} (h3 : W.cell? ⟨b3, 0, none⟩ = some (.int .i64 G)) (h3' : W.cell? ⟨b3, 1, none⟩ = some (.int .i64 H)) (h4 : W.cell? ⟨b4, 0, none⟩ = some (.slice (some ⟨b3, 0, none⟩) 2 2)) (h5 : W.cell? ⟨b5, 0, none⟩ = some (.int .i64 c))
    (h7 : W.cell? ⟨b7, 0, none⟩ = some (.slice (some ⟨b4, 0, none⟩) 1 1)) (h7' : W.cell? ⟨b7, 1, none⟩ = some (.slice (some ⟨b5, 0, none⟩) 1 1)) (h8 : W.cell? ⟨b8, 0, none⟩ = some (.int .i64 H)) (h8' : W.cell? ⟨b8, 1, none⟩ = some (.int .i64 c)) (hlo : lo ≤ b3 ∧ lo ≤ b4 ∧ lo ≤ b5 ∧ lo ≤ b7 ∧ lo ≤ b8) :
    KP lo W.heap.size (fun W' => InL W' (.slice (some ⟨b7, 0, none⟩) 1 1) [([[G, H]], [c])] ∧ ∃ B, InI B W' (.slice (some ⟨b8, 0, none⟩) 2 2) [H, c]) W := by
  refine ⟨Nat.le_refl _, fun w2 hs2 he => ?_⟩
  have tr : ∀ (b i : Nat) (v : Value), lo ≤ b → W.cell? ⟨b, i, none⟩ = some v → w2.cell? ⟨b, i, none⟩ = some v ∧ b < w2.heap.size := fun b i v h1 h => by
    have hb := World.block_lt_of_cell? W _ h
    exact ⟨by rw [World.cell?_of_block (a := ⟨b, i, none⟩) (he b h1 hb)]; exact h, Nat.lt_of_lt_of_le hb hs2⟩
  obtain ⟨l3, l4, l5, l7, l8⟩ := hlo
  have k3 := (tr _ _ _ l3 h3).1
  have k3' := (tr _ _ _ l3 h3').1
  have k4 := tr _ _ _ l4 h4
  have k5 := (tr _ _ _ l5 h5).1
  have k7 := tr _ _ _ l7 h7
  have k7' := (tr _ _ _ l7 h7').1
  have k8 := (tr _ _ _ l8 h8).1
  have k8' := (tr _ _ _ l8 h8').1
  refine ⟨⟨b7, 1, rfl, k7.2, fun i p hp => ?_⟩, _, two_in k8 k8'⟩
  match i, hp with
  | 0, hp =>
    simp only [List.getElem?_cons_zero, Option.some.injEq] at hp
    subst hp
    refine ⟨_, _, k7.1, k7', ⟨Nat.le_refl _, some ⟨b4, 0, none⟩, 1, rfl, (fun h => by cases h), .inr ⟨b4, 0, rfl, k4.2, k4.2, fun i z hz => ?_⟩⟩, one_in k5⟩
    match i, hz with
    | 0, hz =>
      simp only [List.getElem?_cons_zero, Option.some.injEq] at hz
      subst hz
      exact ⟨_, k4.1, two_in k3 k3'⟩
def OpnOut (w : World) (G H c : Int) (e : Ending) (w' : World) : Prop := ∃ v1 v2, e = .returned (.agg #[v1, v2]) ∧ KP w.heap.size w'.heap.size (fun W => InL W v1 [([[G, H]], [c])] ∧ ∃ B, InI B W v2 [H, c]) w' ∧ Below w.heap.size w w'

set_option maxRecDepth 100000 in
set_option maxHeartbeats 3200000 in
theorem openingOf_any (P Q G H c : Int) {B : Nat} {y : Value} {hs : List Int} {w : World} (hy : InI B w y hs) :
    Calls Try.prog 87 #[gv P Q G, .agg #[.int .i64 H, y], .int .i64 c] w (OpnOut w G H c) := by
  obtain ⟨ya, yc, rfl⟩ := hy.shape
  have G_0 := Lib.hid ((gr_at w (w.heap.size) (by simp) P Q G 29).below (ba (w.alloc (.cells #[.int .i64 P, .int .i64 Q, .int .i64 G] 29)) (.cells #[.int .i64 H, .slice ya hs.length yc] 31)))
  have V_0 := Lib.hid (d2_at (w.alloc (.cells #[.int .i64 P, .int .i64 Q, .int .i64 G] 29)) (w.heap.size + 1) (by simp) (.int .i64 H) (.slice ya hs.length yc) 31)
  have HB_0 := Lib.hid (show Below w.heap.size w ((w.alloc (.cells #[.int .i64 P, .int .i64 Q, .int .i64 G] 29)).alloc (.cells #[.int .i64 H, .slice ya hs.length yc] 31)) from bt (ba _ _) (ba _ _))
  clear hy
  have ZC := Lib.hid (d2_at ((w.alloc (.cells #[.int .i64 P, .int .i64 Q, .int .i64 G] 29)).alloc (.cells #[.int .i64 H, .slice ya hs.length yc] 31)) (w.heap.size + 2) (by simp) (.slice none 0 0) (.slice none 0 0) 113)
  have G_1 := Lib.hid (G_0.out.below (ba _ (.cells #[.slice none 0 0, .slice none 0 0] 113)))
  have V_1 := Lib.hid (V_0.out.below (ba _ (.cells #[.slice none 0 0, .slice none 0 0] 113)))
  obtain ⟨gG0, gG1, gG2⟩ := G_1.out
  obtain ⟨cV0, cV1⟩ := V_1.out
  go_enter Try.func87, Try.ntmps87
  go_wp2
  (try simp only [Exit.inBlock, Exit.then])
  refine bodyPost_ret (v := .agg #[.slice (some ⟨w.heap.size + 7, 0, none⟩) 1 1, .slice (some ⟨w.heap.size + 8, 0, none⟩) 2 2]) ?_ rfl ⟨_, _, rfl, ?_, ?_⟩
  · rw [results_cell_one rfl]; go_simp
  · refine opn_kp (b3 := w.heap.size + 3) (b4 := w.heap.size + 4) (b5 := w.heap.size + 5) ?_ ?_ ?_ ?_ ?_ ?_ ?_ ?_ (by omega)
    all_goals
      repeat' (first | exact cell_here _ _ _ (by simp) _ _ _ rfl | refine cell_up ?_ _)
  · exact bt (bt (bt (bt (bt (bt (bt (bt (ba _ _) (ba _ _)) (ba _ _)) (ba _ _)) (ba _ _)) (ba _ _)) (ba _ _)) (ba _ _)) (ba _ _)

set_option maxRecDepth 100000 in
set_option maxHeartbeats 3200000 in
theorem verifyOpening_any (P Q G H c : Int) {B C : Nat} {y v : Value} {hs : List Int} {p : PrD} (hl : hs.length ≤ 1048576) (hpn : p.n ≤ 1048576) {w : World} (hy : InI B w y hs) (hP : InP C w v p) :
    Calls Try.prog 43 #[gv P Q G, .agg #[.int .i64 H, y], .int .i64 c, v] w fun e w' => e = .returned (.tuple #[.bool (voV P Q G H hs c p), .bool (voB P Q G H hs c)]) ∧ Below w.heap.size w w' := by
  obtain ⟨ya, yc, rfl⟩ := hy.shape
  obtain ⟨a1, c1, a2, c2, a3, c3, rfl, _, _, _⟩ := hP.parts
  have G_9 := Lib.hid ((gr_at w (w.heap.size) (by simp) P Q G 29).below (ba (w.alloc (.cells #[.int .i64 P, .int .i64 Q, .int .i64 G] 29)) (.cells #[.int .i64 H, .slice ya hs.length yc] 31)))
  have V_9 := Lib.hid (d2_at (w.alloc (.cells #[.int .i64 P, .int .i64 Q, .int .i64 G] 29)) (w.heap.size + 1) (by simp) (.int .i64 H) (.slice ya hs.length yc) 31)
  have HB_9 := Lib.hid (show Below w.heap.size w ((w.alloc (.cells #[.int .i64 P, .int .i64 Q, .int .i64 G] 29)).alloc (.cells #[.int .i64 H, .slice ya hs.length yc] 31)) from bt (ba _ _) (ba _ _))
  have G_0 := Lib.hid (G_9.out.below (ba _ (.cells #[.slice a1 p.c.length c1, .slice a2 p.h.length c2, .slice a3 p.r.length c3] 50)))
  have V_0 := Lib.hid (V_9.out.below (ba _ (.cells #[.slice a1 p.c.length c1, .slice a2 p.h.length c2, .slice a3 p.r.length c3] 50)))
  have hv := b3_new ((w.alloc (.cells #[.int .i64 P, .int .i64 Q, .int .i64 G] 29)).alloc (.cells #[.int .i64 H, .slice ya hs.length yc] 31)) (.slice a1 p.c.length c1) (.slice a2 p.h.length c2) (.slice a3 p.r.length c3) 50
  rw [show ((w.alloc (.cells #[.int .i64 P, .int .i64 Q, .int .i64 G] 29)).alloc (.cells #[.int .i64 H, .slice ya hs.length yc] 31)).heap.size = w.heap.size + 2 by simp] at hv
  have X_0 := Lib.hid hv
  have HB_0 := Lib.hid (bt HB_9.out (ba _ (.cells #[.slice a1 p.c.length c1, .slice a2 p.h.length c2, .slice a3 p.r.length c3] 50)))
  have Y_0 := Lib.hid (hy.below HB_0.out)
  have PP_0 := Lib.hid (hP.below HB_0.out)
  clear hv hy hP G_9 V_9 HB_9
  cases h0 : bsB P Q G H hs
  · have K0 := Lib.hid (show bsB P Q G H hs = false from h0)
    have E1 := Lib.hid (show voB P Q G H hs c = false by simp [voB, h0])
    have E2 := Lib.hid (show voV P Q G H hs c p = false by simp only [voV, E1.out, Bool.false_and])
    rw [E1.out, E2.out]
    clear h0
    obtain ⟨gG0, gG1, gG2⟩ := G_0.out
    obtain ⟨bX0, bX1, bX2, _⟩ := X_0.out
    obtain ⟨cV0, cV1⟩ := V_0.out
    go_enter Try.func43, Try.ntmps43
    go_wp2_with fail
    refine (isValidBases_any P Q G H (by omega) Y_0.out).mono ?_
    rw [K0.out]
    rintro e v1 ⟨rfl, hb⟩
    have HB_1 := Lib.hid (bt HB_0.out hb)
    have G_1 := Lib.hid (G_0.out.below hb)
    have V_1 := Lib.hid (V_0.out.below hb)
    have X_1 := Lib.hid (X_0.out.below hb)
    have Y_1 := Lib.hid (Y_0.out.below hb)
    have PP_1 := Lib.hid (PP_0.out.below hb)
    clear hb gG0 gG1 gG2 bX0 bX1 bX2 cV0 cV1
    obtain ⟨gG0, gG1, gG2⟩ := G_1.out
    obtain ⟨bX0, bX1, bX2, _⟩ := X_1.out
    obtain ⟨cV0, cV1⟩ := V_1.out
    go_wp2
    go_ret2
    exact ⟨rfl, HB_1.out⟩
  have K0 := Lib.hid (show bsB P Q G H hs = true from h0)
  have hgd := bs_good h0
  have hmo := good_mo hgd
  have hH0 := bs_H h0
  cases h1 : elB P Q c
  · have K1 := Lib.hid (show elB P Q c = false from h1)
    have E1 := Lib.hid (show voB P Q G H hs c = false by simp [voB, h0, h1])
    have E2 := Lib.hid (show voV P Q G H hs c p = false by simp only [voV, E1.out, Bool.false_and])
    rw [E1.out, E2.out]
    clear h0 h1
    obtain ⟨gG0, gG1, gG2⟩ := G_0.out
    obtain ⟨bX0, bX1, bX2, _⟩ := X_0.out
    obtain ⟨cV0, cV1⟩ := V_0.out
    go_enter Try.func43, Try.ntmps43
    go_wp2_with fail
    refine (isValidBases_any P Q G H (by omega) Y_0.out).mono ?_
    rw [K0.out]
    rintro e v1 ⟨rfl, hb⟩
    have HB_1 := Lib.hid (bt HB_0.out hb)
    have G_1 := Lib.hid (G_0.out.below hb)
    have V_1 := Lib.hid (V_0.out.below hb)
    have X_1 := Lib.hid (X_0.out.below hb)
    have Y_1 := Lib.hid (Y_0.out.below hb)
    have PP_1 := Lib.hid (PP_0.out.below hb)
    clear hb gG0 gG1 gG2 bX0 bX1 bX2 cV0 cV1
    obtain ⟨gG0, gG1, gG2⟩ := G_1.out
    obtain ⟨bX0, bX1, bX2, _⟩ := X_1.out
    obtain ⟨cV0, cV1⟩ := V_1.out
    go_wp2_with fail
    refine (hasElement_any P Q G c hmo _).mono ?_
    rw [K1.out]
    rintro e v2 ⟨rfl, hb⟩
    have HB_2 := Lib.hid (bt HB_1.out hb)
    have G_2 := Lib.hid (G_1.out.below hb)
    have V_2 := Lib.hid (V_1.out.below hb)
    have X_2 := Lib.hid (X_1.out.below hb)
    have Y_2 := Lib.hid (Y_1.out.below hb)
    have PP_2 := Lib.hid (PP_1.out.below hb)
    clear hb gG0 gG1 gG2 bX0 bX1 bX2 cV0 cV1
    obtain ⟨gG0, gG1, gG2⟩ := G_2.out
    obtain ⟨bX0, bX1, bX2, _⟩ := X_2.out
    obtain ⟨cV0, cV1⟩ := V_2.out
    go_wp2
    go_ret2
    exact ⟨rfl, HB_2.out⟩
  have K1 := Lib.hid (show elB P Q c = true from h1)
  have E1 := Lib.hid (show voB P Q G H hs c = true by simp [voB, h0, h1])
  rw [E1.out]
  have HOK := Lib.hid (op_ok hgd hH0 h1)
  have HG := Lib.hid hgd
  obtain ⟨v, hv⟩ : ∃ v, vrV P Q G opL (opS G H c) p = v := ⟨_, rfl⟩
  have E2 := Lib.hid (show voV P Q G H hs c p = v by unfold voV; rw [E1.out, hv]; rfl)
  rw [E2.out]
  have HV := Lib.hid hv
  clear h0 h1 hgd hH0 hv
  obtain ⟨gG0, gG1, gG2⟩ := G_0.out
  obtain ⟨bX0, bX1, bX2, _⟩ := X_0.out
  obtain ⟨cV0, cV1⟩ := V_0.out
  go_enter Try.func43, Try.ntmps43
  go_wp2_with fail
  refine (isValidBases_any P Q G H (by omega) Y_0.out).mono ?_
  rw [K0.out]
  rintro e v1 ⟨rfl, hb⟩
  have HB_1 := Lib.hid (bt HB_0.out hb)
  have G_1 := Lib.hid (G_0.out.below hb)
  have V_1 := Lib.hid (V_0.out.below hb)
  have X_1 := Lib.hid (X_0.out.below hb)
  have Y_1 := Lib.hid (Y_0.out.below hb)
  have PP_1 := Lib.hid (PP_0.out.below hb)
  clear hb gG0 gG1 gG2 bX0 bX1 bX2 cV0 cV1
  obtain ⟨gG0, gG1, gG2⟩ := G_1.out
  obtain ⟨bX0, bX1, bX2, _⟩ := X_1.out
  obtain ⟨cV0, cV1⟩ := V_1.out
  go_wp2_with fail
  refine (hasElement_any P Q G c hmo _).mono ?_
  rw [K1.out]
  rintro e v2 ⟨rfl, hb⟩
  have HB_2 := Lib.hid (bt HB_1.out hb)
  have G_2 := Lib.hid (G_1.out.below hb)
  have V_2 := Lib.hid (V_1.out.below hb)
  have X_2 := Lib.hid (X_1.out.below hb)
  have Y_2 := Lib.hid (Y_1.out.below hb)
  have PP_2 := Lib.hid (PP_1.out.below hb)
  clear hb gG0 gG1 gG2 bX0 bX1 bX2 cV0 cV1
  obtain ⟨gG0, gG1, gG2⟩ := G_2.out
  obtain ⟨bX0, bX1, bX2, _⟩ := X_2.out
  obtain ⟨cV0, cV1⟩ := V_2.out
  go_wp2_with fail
  clear gG0 gG1 gG2 cV0 cV1 bX0 bX1 bX2
  have hbd : Below v2.heap.size v2 v2.drew := (Below.refl _ v2).drew
  have HB_s := Lib.hid (bt HB_2.out hbd)
  have G_s := Lib.hid (G_2.out.below hbd)
  have V_s := Lib.hid (V_2.out.below hbd)
  have X_s := Lib.hid (X_2.out.below hbd)
  have Y_s := Lib.hid (Y_2.out.below hbd)
  have PP_s := Lib.hid (PP_2.out.below hbd)
  clear hbd
  refine wp_region_held_drew (S := (fun w' => (w'.cell? ⟨w.heap.size, 0, none⟩ = some (.int .i64 P) ∧ w'.cell? ⟨w.heap.size, 1, none⟩ = some (.int .i64 Q) ∧ w'.cell? ⟨w.heap.size, 2, none⟩ = some (.int .i64 G)) ∧ (w'.cell? ⟨w.heap.size + 1, 0, none⟩ = some (.int .i64 H) ∧ w'.cell? ⟨w.heap.size + 1, 1, none⟩ = some (.slice ya hs.length yc)) ∧ (w'.cell? ⟨w.heap.size + 2, 0, none⟩ = some (.slice a1 p.c.length c1) ∧ w'.cell? ⟨w.heap.size + 2, 1, none⟩ = some (.slice a2 p.h.length c2) ∧ w'.cell? ⟨w.heap.size + 2, 2, none⟩ = some (.slice a3 p.r.length c3)))) (by kernel_rfl) (show _ from ⟨⟨G_2.out.1, G_2.out.2.1, G_2.out.2.2⟩, ⟨V_2.out.1, V_2.out.2⟩, X_2.out.1, X_2.out.2.1, X_2.out.2.2.1⟩) (fun hHeld => ?_)
  generalize hW0 : v2.drew = Ws at *
  clear hW0
  refine wpAnyH_take (i := 0) (v := ?_) rfl (by kernel_rfl) (by kernel_rfl) (by kernel_rfl) (fun _ _ _ h => h) (Or.inl ⟨by kernel_rfl, ?_⟩) (by assumption) ?_
  rotate_left 1
  · intro w9 hSw
    try dsimp only at hSw
    go_simp
    try with_reducible rfl
  try simp only [Act.put, List.getElem_toArray, List.getElem_cons_succ, List.getElem_cons_zero, List.setIfInBounds_toArray, List.set_cons_zero, List.set_cons_succ]
  refine wpAnyH_take (i := 1) (v := ?_) rfl (by kernel_rfl) (by kernel_rfl) (by kernel_rfl) (fun _ _ _ h => h) (Or.inl ⟨by kernel_rfl, ?_⟩) (by assumption) ?_
  rotate_left 1
  · intro w9 hSw
    try dsimp only at hSw
    go_simp
    try with_reducible rfl
  try simp only [Act.put, List.getElem_toArray, List.getElem_cons_succ, List.getElem_cons_zero, List.setIfInBounds_toArray, List.set_cons_zero, List.set_cons_succ]
  refine wpAnyH_take (i := 2) (v := ?_) rfl (by kernel_rfl) (by kernel_rfl) (by kernel_rfl) (fun _ _ _ h => h) (Or.inl ⟨by kernel_rfl, ?_⟩) (by assumption) ?_
  rotate_left 1
  · intro w9 hSw
    try dsimp only at hSw
    go_simp
    try with_reducible rfl
  try simp only [Act.put, List.getElem_toArray, List.getElem_cons_succ, List.getElem_cons_zero, List.setIfInBounds_toArray, List.set_cons_zero, List.set_cons_succ]
  refine wpAnyH_take (i := 3) (v := ?_) rfl (by kernel_rfl) (by kernel_rfl) (by kernel_rfl) (fun _ _ _ h => h) (Or.inl ⟨by kernel_rfl, ?_⟩) (by assumption) ?_
  rotate_left 1
  · intro w9 hSw
    try dsimp only at hSw
    go_simp
    try with_reducible rfl
  try simp only [Act.put, List.getElem_toArray, List.getElem_cons_succ, List.getElem_cons_zero, List.setIfInBounds_toArray, List.set_cons_zero, List.set_cons_succ]
  refine wpAnyH_take (i := 6) (v := ?_) rfl (by kernel_rfl) (by kernel_rfl) (by kernel_rfl) (fun _ _ _ h => h) (Or.inl ⟨by kernel_rfl, ?_⟩) (by assumption) ?_
  rotate_left 1
  · intro w9 hSw
    try dsimp only at hSw
    go_simp
    try with_reducible rfl
  try simp only [Act.put, List.getElem_toArray, List.getElem_cons_succ, List.getElem_cons_zero, List.setIfInBounds_toArray, List.set_cons_zero, List.set_cons_succ]
  refine wpAnyH_ready (rs := [4]) (by kernel_rfl) (by simp) ?_
  refine AllReadyH.cons rfl (fun K hK => ?_) (AllReadyH.nil)
  go_simp
  go_at_call 87
  refine (openingOf_any P Q G H c Y_s.out).mono ?_
  rintro e' Wse ⟨v1, v2, rfl, hk, hb⟩
  have HB_se := Lib.hid (bt HB_s.out hb)
  have G_se := Lib.hid (G_s.out.below hb)
  have V_se := Lib.hid (V_s.out.below hb)
  have X_se := Lib.hid (X_s.out.below hb)
  have Y_se := Lib.hid (Y_s.out.below hb)
  have PP_se := Lib.hid (PP_s.out.below hb)
  have KC_se := Lib.hid hk
  clear hk
  clear hb
  go_wp2_with fail
  refine hK.out _ _ (show _ from ⟨⟨G_se.out.1, G_se.out.2.1, G_se.out.2.2⟩, ⟨V_se.out.1, V_se.out.2⟩, X_se.out.1, X_se.out.2.1, X_se.out.2.2.1⟩) (fun hHeld => ?_)
  clear hK K
  try simp only [Act.put, List.getElem_toArray, List.getElem_cons_succ, List.getElem_cons_zero, List.setIfInBounds_toArray, List.set_cons_zero, List.set_cons_succ]
  refine wpAnyH_take (i := 5) (v := ?_) rfl (by kernel_rfl) (by kernel_rfl) (by kernel_rfl) (fun _ _ _ h => h) (Or.inl ⟨by kernel_rfl, ?_⟩) (by assumption) ?_
  rotate_left 1
  · intro w9 hSw
    try dsimp only at hSw
    go_simp
    try with_reducible rfl
  try simp only [Act.put, List.getElem_toArray, List.getElem_cons_succ, List.getElem_cons_zero, List.setIfInBounds_toArray, List.set_cons_zero, List.set_cons_succ]
  refine wpAnyH_ready (rs := [7]) (by kernel_rfl) (by simp) ?_
  refine AllReadyH.cons rfl (fun K hK => ?_) (AllReadyH.nil)
  go_simp
  go_at_call 91
  refine (isProofClm_any P Q G HG.out opL (by decide) HOK.out hpn KC_se.out.out.1 KC_se.out.out.2.choose_spec PP_se.out).mono ?_
  rw [HV.out]
  rintro e' Wseh ⟨rfl, hb⟩
  have HB_seh := Lib.hid (bt HB_se.out hb)
  have G_seh := Lib.hid (G_se.out.below hb)
  have V_seh := Lib.hid (V_se.out.below hb)
  have X_seh := Lib.hid (X_se.out.below hb)
  have Y_seh := Lib.hid (Y_se.out.below hb)
  have PP_seh := Lib.hid (PP_se.out.below hb)
  have KC_seh := Lib.hid (KC_se.out.below hb)
  clear hb
  go_wp2_with fail
  refine hK.out _ _ (show _ from ⟨⟨G_seh.out.1, G_seh.out.2.1, G_seh.out.2.2⟩, ⟨V_seh.out.1, V_seh.out.2⟩, X_seh.out.1, X_seh.out.2.1, X_seh.out.2.2.1⟩) (fun hHeld => ?_)
  clear hK K
  try simp only [Act.put, List.getElem_toArray, List.getElem_cons_succ, List.getElem_cons_zero, List.setIfInBounds_toArray, List.set_cons_zero, List.set_cons_succ]
  refine wpAnyH_take (i := 8) (v := ?_) rfl (by kernel_rfl) (by kernel_rfl) (by kernel_rfl) (fun _ _ _ h => h) (Or.inl ⟨by kernel_rfl, ?_⟩) (by assumption) ?_
  rotate_left 1
  · intro w9 hSw
    try dsimp only at hSw
    go_simp
    try with_reducible rfl
  try simp only [Act.put, List.getElem_toArray, List.getElem_cons_succ, List.getElem_cons_zero, List.setIfInBounds_toArray, List.set_cons_zero, List.set_cons_succ]
  refine wpAnyH_take (i := 9) (v := ?_) rfl (by kernel_rfl) (by kernel_rfl) (by kernel_rfl) (fun _ _ _ h => h) (Or.inl ⟨by kernel_rfl, ?_⟩) (by assumption) ?_
  rotate_left 1
  · intro w9 hSw
    try dsimp only at hSw
    go_simp
    try with_reducible rfl
  try simp only [Act.put, List.getElem_toArray, List.getElem_cons_succ, List.getElem_cons_zero, List.setIfInBounds_toArray, List.set_cons_zero, List.set_cons_succ]
  refine wpAnyH_take (i := 10) (v := ?_) rfl (by kernel_rfl) (by kernel_rfl) (by kernel_rfl) (fun _ _ _ h => h) (Or.inl ⟨by kernel_rfl, ?_⟩) (by assumption) ?_
  rotate_left 1
  · intro w9 hSw
    try dsimp only at hSw
    go_simp
    try with_reducible rfl
  try simp only [Act.put, List.getElem_toArray, List.getElem_cons_succ, List.getElem_cons_zero, List.setIfInBounds_toArray, List.set_cons_zero, List.set_cons_succ]
  refine wpAnyH_take (i := 11) (v := ?_) rfl (by kernel_rfl) (by kernel_rfl) (by kernel_rfl) (fun _ _ _ h => h) (Or.inl ⟨by kernel_rfl, ?_⟩) (by assumption) ?_
  rotate_left 1
  · intro w9 hSw
    try dsimp only at hSw
    go_simp
    try with_reducible rfl
  try simp only [Act.put, List.getElem_toArray, List.getElem_cons_succ, List.getElem_cons_zero, List.setIfInBounds_toArray, List.set_cons_zero, List.set_cons_succ]
  refine wpAnyH_done (by kernel_rfl) ?_ _
  go_wp2
  go_ret2
  exact ⟨rfl, HB_seh.out⟩

end Go.Proofs.Ytdnofcpobpoehaa

