/- Plain facts for claims about commitments: one linear statement whose challenge is made of other elements. -/
import Derived.Test.YtfjaohmildkeoaaComF
import Derived.Test.YtfjaohmildkeoaaSigF
import Derived.Test.YtfjaohmildkeoaaSigV
import Derived.Deep.RegionHeld3
namespace Go.Proofs.Ytfjaohmildkeoaa
open Go.RowKit
set_option linter.unusedVariables false
set_option linter.unusedSimpArgs false

def svE (P Q G : Int) (s : ByteArray) (el : List Int) (rows : List (List Int)) (im : List Int) (p : PrD) : Bool :=
  decide (p.c.length = rows.length) && (decide (p.h.length = 1) && (decide (p.r.length = wid rows) && (allEl P Q p.c && (allIn p.r 0 (Q - 1) && (decide (p.h.headD 0 = chX P Q G s (el ++ p.c)) && rowOk P (p.h.headD 0) p.r rows p.c im)))))
theorem svE_true {P Q G : Int} {s : ByteArray} {el : List Int} {rows : List (List Int)} {im : List Int} {p : PrD} : svE P Q G s el rows im p = true ↔ p.c.length = rows.length ∧ p.h.length = 1 ∧ p.r.length = wid rows ∧ allEl P Q p.c = true ∧ allIn p.r 0 (Q - 1) = true ∧ p.h.headD 0 = chX P Q G s (el ++ p.c) ∧ rowOk P (p.h.headD 0) p.r rows p.c im = true := by
  simp [svE]
theorem vr_clm {P Q G : Int} {s : ByteArray} {el : List Int} {rows : List (List Int)} {im : List Int} {p : PrD} (h : vrB P Q G s (.clm [(rows, im)] el) = true) :
    vrV P Q G s (.clm [(rows, im)] el) p = svE P Q G s el rows im p := by
  have hv := h
  simp only [vrB, St.ok, Bool.and_eq_true, decide_eq_true_eq, List.all_cons, List.all_nil, Bool.and_true] at h
  obtain ⟨hg, _, _, ⟨hr, hl, hi⟩, _⟩ := h
  obtain ⟨h1, h2, h3⟩ := rowsB_true.1 hr
  have hQ : 0 < Q := by have := goodB_true.1 hg; omega
  have hn : nRows (St.clm [(rows, im)] el).parts = rows.length ∧ nCols (St.clm [(rows, im)] el).parts = wid rows ∧ (St.clm [(rows, im)] el).parts.length = 1 := by
    simp [St.parts, nRows, nCols]
  have hx := chX_rng (P := P) (G := G) (s := s) (zs := el ++ p.c) hQ
  have hm : ∀ e, 0 ≤ e ∧ e < Q → (missV P Q G s (.clm [(rows, im)] el) p.c [e] = 0 ↔ e = chX P Q G s (el ++ p.c)) := by
    intro e he'
    unfold missV St.els
    rw [sub_zero_iff hQ hx]
    show (0 + e) % Q = _ ↔ _
    rw [Int.zero_add, Int.emod_eq_of_lt he'.1 he'.2]
  have hcm : ∀ e, p.r.length = wid rows → cmts P Q (St.clm [(rows, im)] el).parts [e] p.r = List.zipWith (fun x y => decW P Q y x e) (imgs P rows p.r) im := by
    intro e c3
    show List.zipWith _ (imgs P rows (p.r.take (wid rows))) im ++ cmts P Q [] [] _ = _
    rw [List.take_of_length_le (by omega)]
    simp [cmts]
  rw [Bool.eq_iff_iff, vrV_true, formB_true, svE_true, hn.1, hn.2.1, hn.2.2]
  constructor
  · rintro ⟨_, ⟨c1, c4, c2, c6, c3, c5⟩, b, c⟩
    rw [elsB_all (by omega)] at c4
    rw [exsB'_all (by omega)] at c5 c6
    obtain ⟨e, he⟩ := List.length_eq_one_iff.1 c2
    rw [he] at c6 b c ⊢
    rw [hcm e c3] at c
    simp only [allIn, List.all_cons, List.all_nil, Bool.and_true] at c6
    have he' := inB_true.1 c6
    exact ⟨c1, rfl, c3, c4, c5, (hm e ⟨he'.1, by omega⟩).1 b, (rowOk_iff hg he'.1 _ c5 rows p.c im c1 hl (fun r hr => (h3 r hr).2) c4 hi).2 c⟩
  · rintro ⟨c1, c2, c3, c4, c5, a, b⟩
    obtain ⟨e, he⟩ := List.length_eq_one_iff.1 c2
    rw [he] at a b ⊢
    simp only [List.headD_cons] at a b
    have he' : 0 ≤ e ∧ e < Q := by rw [a]; exact hx
    refine ⟨hv, ⟨c1, by rw [elsB_all (by omega)]; exact c4, rfl, ?_, c3, by rw [exsB'_all (by omega)]; exact c5⟩, (hm e he').2 a, ?_⟩
    · rw [exsB'_all (by simp)]
      simp only [allIn, List.all_cons, List.all_nil, Bool.and_true]
      exact inB_true.2 ⟨he'.1, by omega⟩
    · rw [hcm e c3]
      exact (rowOk_iff hg he'.1 _ c5 rows p.c im c1 hl (fun r hr => (h3 r hr).2) c4 hi).1 b

/-- What the prover makes of it. -/
def spE (P Q G : Int) (s : ByteArray) (el : List Int) (rows : List (List Int)) (xs cs : List Int) : PrD :=
  let e := chX P Q G s (el ++ imgs P rows cs)
  ⟨imgs P rows cs, [e], sxpy Q cs e xs⟩
theorem cpl_clm {P Q G : Int} {s : ByteArray} {el : List Int} {rows : List (List Int)} {xs cs : List Int} (h1 : imB P Q G rows xs = true) (h2 : cs.length = xs.length) (h3 : allIn cs 0 (Q - 1) = true) :
    cplP P Q G s (.clm [(rows, imgs P rows xs)] el) [0] cs 0 xs = spE P Q G s el rows xs cs := by
  obtain ⟨hg, hr, hl, he⟩ := imB_true.1 h1
  have hQ : 0 < Q := by have := goodB_true.1 hg; omega
  have h4 : imB P Q G rows cs = true := imB_true.2 ⟨hg, hr, by omega, h3⟩
  have e1 : cmts P Q (St.clm [(rows, imgs P rows xs)] el).parts [0] cs = imgs P rows cs := by
    simp only [St.parts, cmts, List.append_nil]
    rw [List.take_of_length_le (by omega), zip_zero hg _ _ (by simp [imgs_length]) (imgs_el h4) (imgs_el h1)]
  have hx := chX_rng (P := P) (G := G) (s := s) (zs := el ++ imgs P rows cs) hQ
  have e2 : missV P Q G s (.clm [(rows, imgs P rows xs)] el) (imgs P rows cs) [0] = chX P Q G s (el ++ imgs P rows cs) := by
    unfold missV St.els
    show (chX P Q G s _ - 0 + Q) % Q = _
    rw [Int.sub_zero, Int.add_emod_right, Int.emod_eq_of_lt hx.1 hx.2]
  unfold cplP spE
  simp only [e1, e2, Nat.zero_mul, List.take_zero, List.drop_zero, List.nil_append, List.set_cons_zero]

/-! ### Openings -/
abbrev opL : ByteArray := { data := #[111, 112, 101, 110, 105, 110, 103] }
abbrev opS (G H c : Int) : St := .clm [([[G, H]], [c])] [H, c]
theorem el_sm {P Q G x : Int} (hg : goodB P Q G = true) (h : elB P Q x = true) : 0 ≤ x ∧ x ≤ 2000000000 := by
  have := el_rng h
  have := (good_mo hg).1
  omega
theorem op_ok {P Q G H c : Int} (hg : goodB P Q G = true) (hH : elB P Q H = true) (hc : elB P Q c = true) : (opS G H c).ok P Q = true := by
  have hG := good_el hg
  have h1 := el_sm hg hH
  have h2 := el_sm hg hc
  simp [St.ok, rowsB, rowB, wid, allEl, smB, hG, hH, hc, h1, h2]
def voB (P Q G H : Int) (hs : List Int) (c : Int) : Bool := bsB P Q G H hs && elB P Q c
def voV (P Q G H : Int) (hs : List Int) (c : Int) (p : PrD) : Bool := voB P Q G H hs c && vrV P Q G opL (opS G H c) p
def opB (P Q G H : Int) (hs : List Int) (m r : Int) (cs : List Int) : Bool := cmB P Q G H hs m r && (decide (cs.length = 2) && allIn cs 0 (Q - 1))
def opP (P Q G H m r : Int) (cs : List Int) : PrD := spE P Q G opL [H, cmW P G H m r] [[G, H]] [m, r] cs
def opV (P Q G H : Int) (hs : List Int) (m r : Int) (cs : List Int) : PrD := if opB P Q G H hs m r cs then opP P Q G H m r cs else nilP
theorem op_off {P Q G H : Int} {hs : List Int} {m r : Int} {cs : List Int} (h : opB P Q G H hs m r cs = false) : opV P Q G H hs m r cs = nilP := by simp [opV, h]
theorem vo_ref {P Q G H : Int} {hs : List Int} {c : Int} {p : PrD} (h : voB P Q G H hs c = true) : voV P Q G H hs c p = svE P Q G opL [H, c] [[G, H]] [c] p := by
  unfold voV
  rw [h, Bool.true_and]
  unfold voB at h
  rw [Bool.and_eq_true] at h
  have hb := bs_true.1 h.1
  exact vr_clm (by unfold vrB; rw [hb.1, op_ok hb.1 hb.2.1.2 h.2]; rfl)
theorem op_img {P G H m r : Int} (hP : 2 ≤ P) : imgs P [[G, H]] [m, r] = [cmW P G H m r] := by
  simp only [imgs, List.map_cons, List.map_nil, pows_two hP]; rfl
theorem op_cpl {P Q G H : Int} {hs : List Int} {m r : Int} {cs : List Int} (h : opB P Q G H hs m r cs = true) :
    cplP P Q G opL (opS G H (cmW P G H m r)) [0] cs 0 [m, r] = opP P Q G H m r cs := by
  unfold opB at h
  simp only [Bool.and_eq_true, decide_eq_true_eq] at h
  obtain ⟨h1, h2, h3⟩ := h
  have hb := bs_true.1 (cm_bs h1)
  have h4 : allIn [m, r] 0 (Q - 1) = true := by unfold cmB at h1; rw [Bool.and_eq_true] at h1; exact h1.2
  have hP := (good_mo hb.1).1.1
  have hi : imB P Q G [[G, H]] [m, r] = true := by
    refine imB_true.2 ⟨hb.1, ?_, rfl, h4⟩
    simp [rowsB, rowB, wid, allEl, good_el hb.1, hb.2.1.2]
  have := cpl_clm (s := opL) (el := [H, cmW P G H m r]) (cs := cs) hi h2 h3
  rwa [op_img hP] at this

end Go.Proofs.Ytfjaohmildkeoaa

/- Chapter 9, the program: proofs of openings. -/
namespace Go.Proofs.Ytfjaohmildkeoaa
open Go.RowKit
set_option linter.unusedVariables false
set_option linter.unusedSimpArgs false

theorem opn_kp {W : World} {lo b3 b4 b5 b7 b8 : Nat} {G H c : Int} (h3 : W.cell? ⟨b3, 0, none⟩ = some (.int .i64 G)) (h3' : W.cell? ⟨b3, 1, none⟩ = some (.int .i64 H)) (h4 : W.cell? ⟨b4, 0, none⟩ = some (.slice (some ⟨b3, 0, none⟩) 2 2)) (h5 : W.cell? ⟨b5, 0, none⟩ = some (.int .i64 c))
    (h7 : W.cell? ⟨b7, 0, none⟩ = some (.slice (some ⟨b4, 0, none⟩) 1 1)) (h7' : W.cell? ⟨b7, 1, none⟩ = some (.slice (some ⟨b5, 0, none⟩) 1 1)) (h8 : W.cell? ⟨b8, 0, none⟩ = some (.int .i64 H)) (h8' : W.cell? ⟨b8, 1, none⟩ = some (.int .i64 c)) (hlo : lo ≤ b3 ∧ lo ≤ b4 ∧ lo ≤ b5 ∧ lo ≤ b7 ∧ lo ≤ b8) :
    KP lo W.heap.size (fun W' => InL W' (.slice (some ⟨b7, 0, none⟩) 1 1) [([[G, H]], [c])] ∧ ∃ B, InI B W' (.slice (some ⟨b8, 0, none⟩) 2 2) [H, c]) W := by
  refine ⟨Nat.le_refl _, fun w2 hs2 he => ?_⟩
  have tr : ∀ (b i : Nat) (v : Value), lo ≤ b → W.cell? ⟨b, i, none⟩ = some v → w2.cell? ⟨b, i, none⟩ = some v ∧ b < w2.heap.size := fun b i v h1 h => by
    have hb := World.block_lt_of_cell? W _ h
    exact ⟨by rw [World.cell?_of_block (a := ⟨b, i, none⟩) (he b h1 hb)]; exact h, Nat.lt_of_lt_of_le hb hs2⟩
  obtain ⟨l3, l4, l5, l7, l8⟩ := hlo
  have k3 := (tr _ _ _ l3 h3).1
  have k3' := (tr _ _ _ l3 h3').1
  have k4 := tr _ _ _ l4 h4
  have k5 := (tr _ _ _ l5 h5).1
  have k7 := tr _ _ _ l7 h7
  have k7' := (tr _ _ _ l7 h7').1
  have k8 := (tr _ _ _ l8 h8).1
  have k8' := (tr _ _ _ l8 h8').1
  refine ⟨⟨b7, 1, rfl, k7.2, fun i p hp => ?_⟩, _, two_in k8 k8'⟩
  match i, hp with
  | 0, hp =>
    simp only [List.getElem?_cons_zero, Option.some.injEq] at hp
    subst hp
    refine ⟨_, _, k7.1, k7', ⟨Nat.le_refl _, some ⟨b4, 0, none⟩, 1, rfl, (fun h => by cases h), .inr ⟨b4, 0, rfl, k4.2, k4.2, fun i z hz => ?_⟩⟩, one_in k5⟩
    match i, hz with
    | 0, hz =>
      simp only [List.getElem?_cons_zero, Option.some.injEq] at hz
      subst hz
      exact ⟨_, k4.1, two_in k3 k3'⟩
def OpnOut (w : World) (G H c : Int) (e : Ending) (w' : World) : Prop := ∃ v1 v2, e = .returned (.agg #[v1, v2]) ∧ KP w.heap.size w'.heap.size (fun W => InL W v1 [([[G, H]], [c])] ∧ ∃ B, InI B W v2 [H, c]) w' ∧ Below w.heap.size w w'

end Go.Proofs.Ytfjaohmildkeoaa

