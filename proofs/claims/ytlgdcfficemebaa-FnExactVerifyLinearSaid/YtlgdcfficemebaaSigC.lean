/- Sigma proofs, the program: commits that fit, what is left of a challenge, the form of a proof. -/
import Derived.Test.YtlgdcfficemebaaSigA
import Derived.Test.YtlgdcfficemebaaElE
import Derived.Deep.LoopGhost
import Derived.Deep.AppendLies
namespace Go.Proofs.Ytlgdcfficemebaa
open Go.RowKit
set_option linter.unusedVariables false
set_option linter.unusedSimpArgs false

/-! ### A proof in a block -/
theorem B3.drew {w : World} {b : Nat} {x y z : Value} (h : B3 w b x y z) : B3 w.drew b x y z := h
abbrev pv3 (a1 : Option Addr) (n1 c1 : Nat) (a2 : Option Addr) (n2 c2 : Nat) (a3 : Option Addr) (n3 c3 : Nat) : Value := .agg #[.slice a1 n1 c1, .slice a2 n2 c2, .slice a3 n3 c3]
theorem InP.parts {P : Nat} {w : World} {v : Value} {p : PrD} (h : InP P w v p) : ∃ a1 c1 a2 c2 a3 c3, v = pv3 a1 p.c.length c1 a2 p.h.length c2 a3 p.r.length c3 ∧ InI P w (.slice a1 p.c.length c1) p.c ∧ InI P w (.slice a2 p.h.length c2) p.h ∧ InI P w (.slice a3 p.r.length c3) p.r := by
  obtain ⟨x, y, z, rfl, h1, h2, h3⟩ := h
  obtain ⟨a1, c1, rfl⟩ := h1.shape
  obtain ⟨a2, c2, rfl⟩ := h2.shape
  obtain ⟨a3, c3, rfl⟩ := h3.shape
  exact ⟨a1, c1, a2, c2, a3, c3, rfl, h1, h2, h3⟩
theorem InI.dr {P : Nat} {w : World} {v : Value} {zs : List Int} (h : InI P w v zs) : InI P w.drew v zs := h
theorem InS.dr {P : Nat} {w : World} {v : Value} {zs : List (List Int)} (h : InS P w v zs) : InS P w.drew v zs := h

/-! ### The form of a proof -/
theorem nRows_take {ps : List LinD} {p : LinD} {k : Nat} (h : ps.drop k = p :: ps.drop (k + 1)) : nRows (ps.take (k + 1)) = nRows (ps.take k) + p.1.length ∧ nCols (ps.take (k + 1)) = nCols (ps.take k) + wid p.1 := by
  have hk : k < ps.length := by
    rcases Nat.lt_or_ge k ps.length with h1 | h1
    · exact h1
    · rw [List.drop_of_length_le h1] at h; cases h
  rw [List.drop_eq_getElem_cons hk] at h
  rw [List.take_succ_eq_append_getElem hk, ← (List.cons.inj h).1]
  unfold nRows nCols
  simp only [List.map_append, List.sum_append, List.map_cons, List.map_nil, List.sum_cons, List.sum_nil, Nat.add_zero, and_self]
/-- What the loops over a list of linear statements need to know of it. -/
def Fit (ps : List LinD) : Prop := ps.length ≤ 8 ∧ ∀ p ∈ ps, 1 ≤ p.1.length ∧ p.1.length ≤ 8 ∧ 1 ≤ wid p.1 ∧ wid p.1 ≤ 8
theorem Fit.rows {ps : List LinD} (h : Fit ps) : ∀ k, k ≤ ps.length → nRows (ps.take k) ≤ k * 8 ∧ nCols (ps.take k) ≤ k * 8
  | 0, _ => by simp [nRows, nCols]
  | k + 1, hk => by
    have ih := Fit.rows h k (by omega)
    have hd := List.drop_eq_getElem_cons (show k < ps.length by omega)
    have hp := h.2 _ (List.getElem_mem (show k < ps.length by omega))
    have := nRows_take hd
    omega

set_option maxRecDepth 100000 in
set_option maxHeartbeats 3200000 in
theorem formLoop_any (P Q G : Int) (hm : Mo P Q) {ad : Option Addr} {n cap : Nat} {ps : List LinD} (hf : Fit ps) {B : Nat} {v : Value} {p : PrD} (hl : p.n ≤ 1048576) {w : World} (hL : InL w (.slice ad n cap) ps) (hP : InP B w v p) :
    Calls Try.prog 104 #[gv P Q G, .slice ad n cap, v] w fun e w' => e = .returned (.bool (formB P Q ps p)) ∧ Below w.heap.size w w' := by
  obtain ⟨a1, c1, a2, c2, a3, c3, rfl, h1, h2, h3⟩ := hP.parts
  have hn : n = ps.length := by obtain ⟨g, cap', h, _⟩ := hL; simp only [Value.slice.injEq] at h; exact h.2.1
  subst hn
  obtain ⟨hl1, hl2, hl3⟩ : p.c.length ≤ 1048576 ∧ p.h.length ≤ 1048576 ∧ p.r.length ≤ 1048576 := by unfold PrD.n at hl; omega
  have hal := ba (w.alloc (.cells #[.int .i64 P, .int .i64 Q, .int .i64 G] 32)) (.cells #[.slice a1 p.c.length c1, .slice a2 p.h.length c2, .slice a3 p.r.length c3] 36)
  have HB_0 := Lib.hid (bt (ba w (.cells #[.int .i64 P, .int .i64 Q, .int .i64 G] 32)) hal)
  have G_0 := Lib.hid (GR.below (gr_new w P Q G 32) hal)
  have hv := b3_new (w.alloc (.cells #[.int .i64 P, .int .i64 Q, .int .i64 G] 32)) (.slice a1 p.c.length c1) (.slice a2 p.h.length c2) (.slice a3 p.r.length c3) 36
  rw [show (w.alloc (.cells #[.int .i64 P, .int .i64 Q, .int .i64 G] 32)).heap.size = w.heap.size + 1 by simp] at hv
  have V_0 := Lib.hid hv
  have C_0 := Lib.hid (h1.below HB_0.out)
  have H_0 := Lib.hid (h2.below HB_0.out)
  have R_0 := Lib.hid (h3.below HB_0.out)
  have L_0 := Lib.hid (hL.below HB_0.out)
  have HF := Lib.hid hf
  have hps := hf.1
  clear hal hv h1 h2 h3 hP hL hf
  go_enter Try.func104, Try.ntmps104
  go_wp2_with fail
  generalize hW : (w.alloc (.cells #[.int .i64 P, .int .i64 Q, .int .i64 G] 32)).alloc (.cells #[.slice a1 p.c.length c1, .slice a2 p.h.length c2, .slice a3 p.r.length c3] 36) = W at *
  go_loopw [7, 8, 13] (fun R C K wr => ∃ k : Nat, k ≤ ps.length ∧ K = .int .i64 k ∧ R = .int .i64 (nRows (ps.take k)) ∧ C = .int .i64 (nCols (ps.take k)) ∧ Below W.heap.size W wr) (fun _ _ K _ => ps.length - (intOf K).toNat)
  case atStart => exact ⟨0, Nat.zero_le _, rfl, by simp [nRows], by simp [nCols], Below.refl _ _⟩
  case round =>
    obtain ⟨k, hk, rfl, rfl, rfl, hbel⟩ := hrel
    have HB := Lib.hid (bt HB_0.out hbel)
    have HBk := Lib.hid hbel
    have V_1 := Lib.hid (V_0.out.below hbel)
    have G_1 := Lib.hid (G_0.out.below hbel)
    have hcnt := HF.out.rows k hk
    by_cases hkn : k < ps.length
    · obtain ⟨g, x1, x2, y1, y2, q, rfl, hg, hc0, hc1, hs, hi, hd⟩ := (L_0.out.below hbel).at hkn
      have hq := HF.out.2 q (List.mem_of_mem_drop (i := k) (by rw [hd]; simp))
      obtain ⟨b0, off0, z1, z2, z0, rfl, hb0, hcz, hiz, hdz⟩ := hs.at (k := 0) (by omega)
      rw [Nat.add_zero] at hcz
      have hw0 := wid_head hdz
      have HS := Lib.hid (nRows_take hd)
      have hcnt2 := HF.out.rows (k + 1) hkn
      have hsum := nRows_take hd
      rw [hw0] at hsum hq
      have e1 : IntKind.i64.wrap ((nRows (ps.take k) : Int) + (q.1.length : Int)) = (nRows (ps.take (k + 1)) : Int) := by rw [IntKind.wrap_i64]; omega
      have e2 : IntKind.i64.wrap ((nCols (ps.take k) : Int) + (z0.length : Int)) = (nCols (ps.take (k + 1)) : Int) := by rw [IntKind.wrap_i64]; omega
      have hq0 : 1 ≤ q.1.length := hq.1
      have hq0 : 1 ≤ q.1.length := hq.1
      clear hs hi hd hdz hw0 hsum hcnt hcnt2 hbel hiz hq
      go_wp2_with fail
      go_roundw
      case rel => exact ⟨k + 1, by omega, by go_num, rfl, rfl, bt HBk.out (ba _ _)⟩
      case measure => simp only [intOf]; omega
    · obtain rfl : k = ps.length := by omega
      obtain ⟨g0, g1, g2⟩ := G_1.out
      obtain ⟨pv0, pv1, pv2, _⟩ := V_1.out
      have C_1 := Lib.hid (C_0.out.below hbel)
      have H_1 := Lib.hid (H_0.out.below hbel)
      have R_1 := Lib.hid (R_0.out.below hbel)
      rw [List.take_length] at hcnt ⊢
      clear hbel hcnt
      by_cases h0 : ¬ p.c.length = nRows ps
      · have HFV := Lib.hid (show formB P Q ps p = false by simp [formB, h0])
        have B0 : ((p.c.length : Int) == (nRows ps : Int)) = false := by simp; omega
        clear h0
        go_wp2
        go_ret
        exact ⟨by rw [HFV.out]; rfl, HB.out⟩
      have h0 := Decidable.not_not.1 h0
      have B0 : ((p.c.length : Int) == (nRows ps : Int)) = true := by simp [h0]
      cases h1 : elsB P Q p.c
      · have HFV := Lib.hid (show formB P Q ps p = false by simp [formB, h0, h1])
        have K1 := Lib.hid (show elsB P Q p.c = false from h1)
        clear h0 h1
        go_wp2_with fail
        refine (areElements_any P Q G hm _ _ _ p.c rfl (by omega) _ (C_1.out.ints).1).mono ?_
        rw [K1.out]
        rintro e v2 ⟨rfl, hb⟩
        have HB_2 := Lib.hid (bt HB.out hb)
        have G_2 := Lib.hid (G_1.out.below hb)
        have V_2 := Lib.hid (V_1.out.below hb)
        have C_2 := Lib.hid (C_1.out.below hb)
        have H_2 := Lib.hid (H_1.out.below hb)
        have R_2 := Lib.hid (R_1.out.below hb)
        clear hb g0 g1 g2 pv0 pv1 pv2
        obtain ⟨g0, g1, g2⟩ := G_2.out
        obtain ⟨pv0, pv1, pv2, _⟩ := V_2.out
        go_wp2
        go_ret
        exact ⟨by rw [HFV.out]; rfl, HB_2.out⟩
      have K1 := Lib.hid (show elsB P Q p.c = true from h1)
      by_cases h2 : ¬ p.h.length = ps.length
      · have HFV := Lib.hid (show formB P Q ps p = false by simp [formB, h0, h1, h2])
        have B2 : ((p.h.length : Int) == (ps.length : Int)) = false := by simp; omega
        clear h0 h1 h2
        go_wp2_with fail
        refine (areElements_any P Q G hm _ _ _ p.c rfl (by omega) _ (C_1.out.ints).1).mono ?_
        rw [K1.out]
        rintro e v2 ⟨rfl, hb⟩
        have HB_2 := Lib.hid (bt HB.out hb)
        have G_2 := Lib.hid (G_1.out.below hb)
        have V_2 := Lib.hid (V_1.out.below hb)
        have C_2 := Lib.hid (C_1.out.below hb)
        have H_2 := Lib.hid (H_1.out.below hb)
        have R_2 := Lib.hid (R_1.out.below hb)
        clear hb g0 g1 g2 pv0 pv1 pv2
        obtain ⟨g0, g1, g2⟩ := G_2.out
        obtain ⟨pv0, pv1, pv2, _⟩ := V_2.out
        go_wp2
        go_ret
        exact ⟨by rw [HFV.out]; rfl, HB_2.out⟩
      have h2 := Decidable.not_not.1 h2
      have B2 : ((p.h.length : Int) == (ps.length : Int)) = true := by simp [h2]
      cases h3 : exsB' Q p.h
      · have HFV := Lib.hid (show formB P Q ps p = false by simp [formB, h0, h1, h2, h3])
        have K3 := Lib.hid (show exsB Q p.h = false from h3)
        clear h0 h1 h2 h3
        go_wp2_with fail
        refine (areElements_any P Q G hm _ _ _ p.c rfl (by omega) _ (C_1.out.ints).1).mono ?_
        rw [K1.out]
        rintro e v2 ⟨rfl, hb⟩
        have HB_2 := Lib.hid (bt HB.out hb)
        have G_2 := Lib.hid (G_1.out.below hb)
        have V_2 := Lib.hid (V_1.out.below hb)
        have C_2 := Lib.hid (C_1.out.below hb)
        have H_2 := Lib.hid (H_1.out.below hb)
        have R_2 := Lib.hid (R_1.out.below hb)
        clear hb g0 g1 g2 pv0 pv1 pv2
        obtain ⟨g0, g1, g2⟩ := G_2.out
        obtain ⟨pv0, pv1, pv2, _⟩ := V_2.out
        go_wp2_with fail
        refine (areExponents_any P Q G _ _ _ p.h rfl (by omega) _ (H_2.out.ints).1).mono ?_
        rw [K3.out]
        rintro e v3 ⟨rfl, hb⟩
        have HB_3 := Lib.hid (bt HB_2.out hb)
        have G_3 := Lib.hid (G_2.out.below hb)
        have V_3 := Lib.hid (V_2.out.below hb)
        have C_3 := Lib.hid (C_2.out.below hb)
        have H_3 := Lib.hid (H_2.out.below hb)
        have R_3 := Lib.hid (R_2.out.below hb)
        clear hb g0 g1 g2 pv0 pv1 pv2
        obtain ⟨g0, g1, g2⟩ := G_3.out
        obtain ⟨pv0, pv1, pv2, _⟩ := V_3.out
        go_wp2
        go_ret
        exact ⟨by rw [HFV.out]; rfl, HB_3.out⟩
      have K3 := Lib.hid (show exsB Q p.h = true from h3)
      by_cases h4 : ¬ p.r.length = nCols ps
      · have HFV := Lib.hid (show formB P Q ps p = false by simp [formB, h0, h1, h2, h3, h4])
        have B4 : ((p.r.length : Int) == (nCols ps : Int)) = false := by simp; omega
        clear h0 h1 h2 h3 h4
        go_wp2_with fail
        refine (areElements_any P Q G hm _ _ _ p.c rfl (by omega) _ (C_1.out.ints).1).mono ?_
        rw [K1.out]
        rintro e v2 ⟨rfl, hb⟩
        have HB_2 := Lib.hid (bt HB.out hb)
        have G_2 := Lib.hid (G_1.out.below hb)
        have V_2 := Lib.hid (V_1.out.below hb)
        have C_2 := Lib.hid (C_1.out.below hb)
        have H_2 := Lib.hid (H_1.out.below hb)
        have R_2 := Lib.hid (R_1.out.below hb)
        clear hb g0 g1 g2 pv0 pv1 pv2
        obtain ⟨g0, g1, g2⟩ := G_2.out
        obtain ⟨pv0, pv1, pv2, _⟩ := V_2.out
        go_wp2_with fail
        refine (areExponents_any P Q G _ _ _ p.h rfl (by omega) _ (H_2.out.ints).1).mono ?_
        rw [K3.out]
        rintro e v3 ⟨rfl, hb⟩
        have HB_3 := Lib.hid (bt HB_2.out hb)
        have G_3 := Lib.hid (G_2.out.below hb)
        have V_3 := Lib.hid (V_2.out.below hb)
        have C_3 := Lib.hid (C_2.out.below hb)
        have H_3 := Lib.hid (H_2.out.below hb)
        have R_3 := Lib.hid (R_2.out.below hb)
        clear hb g0 g1 g2 pv0 pv1 pv2
        obtain ⟨g0, g1, g2⟩ := G_3.out
        obtain ⟨pv0, pv1, pv2, _⟩ := V_3.out
        go_wp2
        go_ret
        exact ⟨by rw [HFV.out]; rfl, HB_3.out⟩
      have h4 := Decidable.not_not.1 h4
      have B4 : ((p.r.length : Int) == (nCols ps : Int)) = true := by simp [h4]
      have HFV := Lib.hid (show formB P Q ps p = exsB Q p.r by rw [show exsB Q p.r = exsB' Q p.r from rfl]; simp [formB, h0, h1, h2, h3, h4])
      clear h0 h1 h2 h3 h4
      go_wp2_with fail
      refine (areElements_any P Q G hm _ _ _ p.c rfl (by omega) _ (C_1.out.ints).1).mono ?_
      rw [K1.out]
      rintro e v2 ⟨rfl, hb⟩
      have HB_2 := Lib.hid (bt HB.out hb)
      have G_2 := Lib.hid (G_1.out.below hb)
      have V_2 := Lib.hid (V_1.out.below hb)
      have C_2 := Lib.hid (C_1.out.below hb)
      have H_2 := Lib.hid (H_1.out.below hb)
      have R_2 := Lib.hid (R_1.out.below hb)
      clear hb g0 g1 g2 pv0 pv1 pv2
      obtain ⟨g0, g1, g2⟩ := G_2.out
      obtain ⟨pv0, pv1, pv2, _⟩ := V_2.out
      go_wp2_with fail
      refine (areExponents_any P Q G _ _ _ p.h rfl (by omega) _ (H_2.out.ints).1).mono ?_
      rw [K3.out]
      rintro e v3 ⟨rfl, hb⟩
      have HB_3 := Lib.hid (bt HB_2.out hb)
      have G_3 := Lib.hid (G_2.out.below hb)
      have V_3 := Lib.hid (V_2.out.below hb)
      have C_3 := Lib.hid (C_2.out.below hb)
      have H_3 := Lib.hid (H_2.out.below hb)
      have R_3 := Lib.hid (R_2.out.below hb)
      clear hb g0 g1 g2 pv0 pv1 pv2
      obtain ⟨g0, g1, g2⟩ := G_3.out
      obtain ⟨pv0, pv1, pv2, _⟩ := V_3.out
      go_wp2_with fail
      refine (areExponents_any P Q G _ _ _ p.r rfl (by omega) _ (R_3.out.ints).1).mono ?_
      rintro e v4 ⟨rfl, hb⟩
      have HB_4 := Lib.hid (bt HB_3.out hb)
      have G_4 := Lib.hid (G_3.out.below hb)
      have V_4 := Lib.hid (V_3.out.below hb)
      have C_4 := Lib.hid (C_3.out.below hb)
      have H_4 := Lib.hid (H_3.out.below hb)
      have R_4 := Lib.hid (R_3.out.below hb)
      clear hb g0 g1 g2 pv0 pv1 pv2
      obtain ⟨g0, g1, g2⟩ := G_4.out
      obtain ⟨pv0, pv1, pv2, _⟩ := V_4.out
      go_wp2
      go_ret
      exact ⟨by rw [HFV.out]; rfl, HB_4.out⟩

end Go.Proofs.Ytlgdcfficemebaa

/- Sigma proofs, the program: the commits that fit. -/
namespace Go.Proofs.Ytlgdcfficemebaa
open Go.RowKit
set_option linter.unusedVariables false
set_option linter.unusedSimpArgs false

theorem IsInts.tail {w : World} {b off : Nat} {zs : List Int} (h : IsInts w (some ⟨b, off, none⟩) zs) (c : Nat) : IsInts w (some ⟨b, off + c, none⟩) (zs.drop c) := by
  rcases h with rfl | ⟨b', off', h1, hb, hc⟩
  · exact .inl (by simp)
  · simp only [Option.some.injEq, Addr.mk.injEq, and_true] at h1
    obtain ⟨rfl, rfl⟩ := h1
    refine .inr ⟨b, off + c, rfl, hb, fun i hi => ?_⟩
    rw [List.length_drop] at hi
    rw [Nat.add_assoc, hc (c + i) (by omega)]
    simp
theorem IsInts.init {w : World} {ad : Option Addr} {zs : List Int} (h : IsInts w ad zs) (c : Nat) : IsInts w ad (zs.take c) := by
  rcases h with rfl | ⟨b', off', rfl, hb, hc⟩
  · exact .inl (by simp)
  · refine .inr ⟨b', off', rfl, hb, fun i hi => ?_⟩
    rw [List.length_take] at hi
    rw [hc i (by omega)]
    congr 2
    simp only [List.getD_eq_getElem?_getD]
    rw [List.getElem?_take_of_lt (by omega)]

/-- The blocks from lo to hi are as they were. -/
def Keep (lo hi : Nat) (w w' : World) : Prop := hi ≤ w'.heap.size ∧ ∀ k, lo ≤ k → k < hi → w'.heap[k]? = w.heap[k]?
theorem Keep.refl (lo : Nat) (w : World) : Keep lo w.heap.size w w := ⟨Nat.le_refl _, fun _ _ _ => rfl⟩
theorem Keep.below {lo hi : Nat} {a w w' : World} (h : Keep lo hi a w) (hb : Below w.heap.size w w') : Keep lo hi a w' :=
  ⟨Nat.le_trans h.1 hb.size, fun k h1 h2 => (hb.block k (Nat.lt_of_lt_of_le h2 h.1)).trans (h.2 k h1 h2)⟩
theorem Keep.cell {lo hi b i : Nat} {w w' : World} {v : Value} (h : Keep lo hi w w') (h1 : lo ≤ b) (h2 : b < hi) (hc : w.cell? ⟨b, i, none⟩ = some v) : w'.cell? ⟨b, i, none⟩ = some v := by
  rw [World.cell?_of_block (a := ⟨b, i, none⟩) (h.2 b h1 h2)]; exact hc
/-- A slice that lies below lo or from hi on. -/
def Off (lo hi : Nat) (va : Option Addr) : Prop := ∀ a, va = some a → a.block < lo ∨ hi ≤ a.block
theorem Keep.grown {lo hi n c : Nat} {a w w' : World} {va : Option Addr} (h : Keep lo hi a w) (ho : Off lo hi va) (hg : w.grownBy w' (Value.slice va n c).ownBlock) : Keep lo hi a w' := by
  refine ⟨Nat.le_trans h.1 hg.size, fun k h1 h2 => (hg.block k (Nat.lt_of_lt_of_le h2 h.1) ?_).trans (h.2 k h1 h2)⟩
  intro he
  cases va with
  | none => simp [Value.ownBlock] at he
  | some x =>
    simp only [Value.ownBlock, Option.some.injEq] at he
    have := ho x rfl
    omega
theorem Off.next {lo hi n c g H : Nat} {va : Option Addr} (h : Off lo hi va) (hat : (Value.slice va n c).ownBlock = some g ∨ g = H) (hH : hi ≤ H) : Off lo hi (some ⟨g, 0, none⟩) := by
  rintro a ⟨⟩
  rcases hat with h1 | h1
  · cases va with
    | none => simp [Value.ownBlock] at h1
    | some x =>
      simp only [Value.ownBlock, Option.some.injEq] at h1
      have := h x rfl
      simp only
      omega
  · simp only; omega
theorem off_own {w : World} {base : Nat} {e : TypeId} {size n c hi m : Nat} {va : Option Addr} {xs : List Value} (h : w.ownsRow base e size (.slice va n c) m xs) : Off w.heap.size hi va := by
  rintro a rfl
  exact .inl (h.lt a.block rfl).2
theorem InI.upto {P : Nat} {w w' : World} {v : Value} {zs : List Int} (h : InI P w v zs) (hb : Below P w w') : InI P w' v zs := h.belowP hb

/-- What the commits need of the linear statements. -/
def Sound (P Q : Int) (ps : List LinD) : Prop := Fit ps ∧ ∀ p ∈ ps, (∀ r ∈ p.1, r.length = wid p.1 ∧ allEl P Q r = true) ∧ p.2.length = p.1.length ∧ allEl P Q p.2 = true
/-- The commits of one linear statement. -/
def zipC (P Q : Int) (p : LinD) (c : Int) (rs : List Int) : List Int := List.zipWith (fun x y => decW P Q y x c) (imgs P p.1 (rs.take (wid p.1))) p.2
theorem cmts_step {P Q e : Int} {ps : List LinD} {q : LinD} {h r : List Int} {k c : Nat} (hd : ps.drop k = q :: ps.drop (k + 1)) (hh : h.drop k = e :: h.drop (k + 1)) :
    cmts P Q (ps.drop k) (h.drop k) (r.drop c) = zipC P Q q e (r.drop c) ++ cmts P Q (ps.drop (k + 1)) (h.drop (k + 1)) (r.drop (c + wid q.1)) := by
  rw [hd, hh]
  show _ ++ cmts P Q _ _ ((r.drop c).drop _) = _
  rw [List.drop_drop]; rfl
theorem zip_take {P Q e : Int} {xs ys : List Int} {x y : Int} {j : Nat} (hx : xs.drop j = x :: xs.drop (j + 1)) (hy : ys.drop j = y :: ys.drop (j + 1)) :
    (List.zipWith (fun x y => decW P Q y x e) xs ys).take (j + 1) = (List.zipWith (fun x y => decW P Q y x e) xs ys).take j ++ [decW P Q y x e] := by
  have hj : j < xs.length := by
    rcases Nat.lt_or_ge j xs.length with h | h
    · exact h
    · rw [List.drop_of_length_le h] at hx; cases hx
  have hj' : j < ys.length := by
    rcases Nat.lt_or_ge j ys.length with h | h
    · exact h
    · rw [List.drop_of_length_le h] at hy; cases hy
  rw [List.drop_eq_getElem_cons hj] at hx
  rw [List.drop_eq_getElem_cons hj'] at hy
  rw [List.take_succ_eq_append_getElem (by simp; omega)]
  simp only [List.getElem_zipWith]
  rw [(List.cons.inj hx).1, (List.cons.inj hy).1]
theorem nCols_all {ps : List LinD} {p : LinD} (h : p ∈ ps) : wid p.1 ≤ nCols ps := by
  induction ps with
  | nil => cases h
  | cons a t ih =>
    unfold nCols at *
    simp only [List.map_cons, List.sum_cons, List.mem_cons] at *
    rcases h with rfl | h
    · omega
    · have := ih h; omega
theorem nCols_split (ps : List LinD) (k : Nat) : nCols (ps.take k) + nCols (ps.drop k) = nCols ps := by
  unfold nCols
  rw [← List.sum_append, ← List.map_append, List.take_append_drop]

set_option maxRecDepth 100000 in
set_option maxHeartbeats 6400000 in
theorem commitsOf_any (P Q G : Int) (hg : goodB P Q G = true) {ad : Option Addr} {n cap : Nat} {ps : List LinD} (hs : Sound P Q ps) (h1p : 1 ≤ ps.length) {B : Nat} {v : Value} {p : PrD} (hh : p.h.length = ps.length) (hr : p.r.length = nCols ps) (hhi : allIn p.h 0 (Q - 1) = true) (hri : allIn p.r 0 (Q - 1) = true) {w : World} (hL : InL w (.slice ad n cap) ps) (hP : InP B w v p) :
    Calls Try.prog 126 #[gv P Q G, .slice ad n cap, v] w (OwnI w (cmts P Q ps p.h p.r)) := by
  obtain ⟨a1, c1, a2, c2, a3, c3, rfl, h1, h2, h3⟩ := hP.parts
  have hn : n = ps.length := by obtain ⟨g, cap', h, _⟩ := hL; simp only [Value.slice.injEq] at h; exact h.2.1
  subst hn
  have hP2 := (good_mo hg).1
  have hmo := good_mo hg
  have hQ2 : 2 ≤ Q ∧ Q ≤ 2000000000 := (good_rng hg).2.1
  obtain ⟨i0, hi0, hz0, hz1, hz2⟩ := info_parts Try.info3
  have hps8 := hs.1.1
  have hrl : p.r.length ≤ 64 := by
    have := (hs.1.rows ps.length (Nat.le_refl _)).2
    rw [List.take_length] at this
    omega
  have hr1 : 1 ≤ p.r.length := by
    have h0 := hs.1.2 _ (List.getElem_mem (show 0 < ps.length by omega))
    have := nCols_all (List.getElem_mem (show 0 < ps.length by omega))
    omega
  obtain ⟨rb, ro, rfl⟩ : ∃ rb ro, a3 = some ⟨rb, ro, none⟩ := by
    rcases (h3.ints).1 with h | ⟨b, off, h, _⟩
    · rw [h] at hr1; simp at hr1
    · exact ⟨b, off, h⟩
  have hrc := (h3.ints).2.2.2
  have hal := ba (w.alloc (.cells #[.int .i64 P, .int .i64 Q, .int .i64 G] 32)) (.cells #[.slice a1 p.c.length c1, .slice a2 p.h.length c2, .slice (some ⟨rb, ro, none⟩) p.r.length c3] 36)
  have HB_0 := Lib.hid (bt (ba w (.cells #[.int .i64 P, .int .i64 Q, .int .i64 G] 32)) hal)
  have G_0 := Lib.hid (GR.below (gr_new w P Q G 32) hal)
  have hv := b3_new (w.alloc (.cells #[.int .i64 P, .int .i64 Q, .int .i64 G] 32)) (.slice a1 p.c.length c1) (.slice a2 p.h.length c2) (.slice (some ⟨rb, ro, none⟩) p.r.length c3) 36
  rw [show (w.alloc (.cells #[.int .i64 P, .int .i64 Q, .int .i64 G] 32)).heap.size = w.heap.size + 1 by simp] at hv
  have V_0 := Lib.hid hv
  have H_0 := Lib.hid (h2.below HB_0.out)
  have R_0 := Lib.hid (h3.below HB_0.out)
  have L_0 := Lib.hid (hL.below HB_0.out)
  have HS := Lib.hid hs
  have HG := Lib.hid hg
  have HHI := Lib.hid (show ∀ e ∈ p.h, 0 ≤ e ∧ e < Q from fun e he => by
    unfold allIn at hhi; rw [List.all_eq_true] at hhi; have := inB_true.1 (hhi e he); omega)
  have HRI := Lib.hid hri
  have HH := Lib.hid hh
  have HRL := Lib.hid hr
  clear hal hv h1 h2 h3 hP hL hs hhi hri hh hr hg
  obtain ⟨pv0, pv1, pv2, _⟩ := V_0.out
  obtain ⟨g0, g1, g2⟩ := G_0.out
  go_enter Try.func126, Try.ntmps126
  go_wp2_with fail
  generalize hW : (w.alloc (.cells #[.int .i64 P, .int .i64 Q, .int .i64 G] 32)).alloc (.cells #[.slice a1 p.c.length c1, .slice a2 p.h.length c2, .slice (some ⟨rb, ro, none⟩) p.r.length c3] 36) = W at *
  clear pv0 pv1 pv2 g0 g1 g2
  go_loopg [7, 8, 20] ps.length (fun gk V R K wr => ∃ (k : Nat) (va : Option Addr) (vc : Nat) (A : List Int) (d : Nat), gk + k = ps.length ∧ k ≤ ps.length ∧ K = .int .i64 k ∧ V = .slice va A.length vc ∧ wr.ownsRow W.heap.size 3 1 (.slice va A.length vc) A.length (A.map (Value.int .i64)) ∧ A.length ≤ k * 8 ∧
    R = .slice (some ⟨rb, ro + d, none⟩) (p.r.length - nCols (ps.take k)) (c3 - nCols (ps.take k)) ∧ (nCols (ps.take k) < p.r.length → d = nCols (ps.take k)) ∧ cmts P Q ps p.h p.r = A ++ cmts P Q (ps.drop k) (p.h.drop k) (p.r.drop (nCols (ps.take k))) ∧ Below W.heap.size W wr)
  case atStart => exact ⟨0, none, 0, [], 0, by omega, Nat.zero_le _, rfl, rfl, by simpa using World.ownsRow_nil _ _ _ _, by simp, by simp [nCols], by simp [nCols], by simp [nCols], Below.refl _ _⟩
  case round =>
    obtain ⟨k, va, vc, A, d, hgk, hk, rfl, rfl, hown, hAl, rfl, hdc, hcm, hbel⟩ := hrel
    have HGK := Lib.hid hgk
    have HO := Lib.hid hown
    have HCM := Lib.hid hcm
    have HBk := Lib.hid hbel
    have HB := Lib.hid (bt HB_0.out hbel)
    clear hgk hown hcm
    by_cases hkn : k < ps.length
    · have hL0 := L_0.out
      obtain ⟨g, x1, x2, y1, y2, q, rfl, hgl, hc0, hc1, hsq, hiq, hd⟩ := hL0.at hkn
      have hqm : q ∈ ps := List.mem_of_mem_drop (i := k) (by rw [hd]; simp)
      obtain ⟨hq1, hq2, hq3, hq4⟩ := HS.out.1.2 q hqm
      obtain ⟨hqr, hqi, hqe⟩ := HS.out.2 q hqm
      obtain ⟨b0, off0, z1, z2, z0, rfl, hb0, hcz, hiz, hdz⟩ := hsq.at (k := 0) (by omega)
      rw [Nat.add_zero] at hcz
      have hw0 := wid_head hdz
      obtain ⟨eb, eo, e, rfl, hbb, hce, hde⟩ := (H_0.out.ints).1.at (k := k) (by rw [HH.out]; exact hkn)
      have her := HHI.out e (mem_drop hde)
      obtain ⟨c, hcd⟩ : ∃ c, nCols (ps.take k) = c := ⟨_, rfl⟩
      rw [hcd] at hdc
      have hcs := (nRows_take hd).2
      rw [hcd, hw0] at hcs
      have hctot : c + z0.length ≤ p.r.length := by
        have h1 := nCols_split ps (k + 1)
        have := HRL.out
        omega
      have hdc2 : c = d := (hdc (by omega)).symm
      subst hdc2
      obtain ⟨es, hes⟩ : ∃ es, (p.r.drop c).take (wid q.1) = es := ⟨_, rfl⟩
      have hesl : es.length = z0.length := by rw [← hes, List.length_take, List.length_drop, hw0]; omega
      have hesi : allIn es 0 (Q - 1) = true := by
        have h1 := HRI.out
        unfold allIn at h1 ⊢
        rw [List.all_eq_true] at h1 ⊢
        intro z hz
        rw [← hes] at hz
        exact h1 z (List.mem_of_mem_drop (List.mem_of_mem_take hz))
      obtain ⟨xs, hxs⟩ : ∃ xs, imgs P q.1 es = xs := ⟨_, rfl⟩
      have hxl : xs.length = q.1.length := by rw [← hxs, imgs_length]
      have hxe : allEl P Q xs = true := by
        rw [← hxs]
        unfold allEl imgs
        rw [List.all_map, List.all_eq_true]
        exact fun r hr => pows_el HG.out r es 1 (one_el HG.out) (hqr r hr).2 hesi
      have HZP := Lib.hid (show zipC P Q q e (p.r.drop c) = List.zipWith (fun x y => decW P Q y x e) xs q.2 by unfold zipC; rw [hes, hxs])
      have himg := fun (W' : World) (ad' : Option Addr) (cap' : Nat) (hS' : InS W.heap.size W' (.slice (some ⟨b0, off0, none⟩) q.1.length x2) q.1) (hI' : IsInts W' ad' es) => imagesOf_any P Q G hmo (C := 0) (cap := cap') (by omega) (fun r hr => ⟨by rw [(hqr r hr).1, hw0, hesl], (hqr r hr).2⟩) hesi (by omega) hS' hesl hI'
      rw [hxs] at himg
      have HIMG := Lib.hid himg
      have HXL := Lib.hid hxl
      have HXE := Lib.hid (all_rng hxe)
      have HYE := Lib.hid (show ∀ y ∈ q.2, elB P Q y = true from by unfold allEl at hqe; rwa [List.all_eq_true] at hqe)
      have HYL := Lib.hid (show q.2.length = q.1.length from hqi)
      have HSQ := Lib.hid hsq
      have HIQ := Lib.hid hiq
      have HNEXT := Lib.hid (cmts_step (P := P) (Q := Q) (r := p.r) (c := c) hd hde)
      have HCS := Lib.hid hcs
      have HW0 := Lib.hid hw0
      have hal := ba wr (.cells #[.slice (some ⟨b0, off0, none⟩) q.1.length x2, .slice y1 q.2.length y2] 92)
      have HBL := Lib.hid (show Below W.heap.size W (wr.alloc (.cells #[.slice (some ⟨b0, off0, none⟩) q.1.length x2, .slice y1 q.2.length y2] 92)) from bt hbel hal)
      have VB := Lib.hid (v2_new wr (.slice (some ⟨b0, off0, none⟩) q.1.length x2) (.slice y1 q.2.length y2) 92)
      have hcz' := (HBL.out.cell (p := ⟨b0, off0, none⟩) hb0).trans hcz
      have hsp : z0.length ≤ c3 - c := by omega
      have hsp0 : c ≤ c3 := by omega
      have hz1' : 1 ≤ z0.length := by omega
      obtain ⟨g0, g1, g2⟩ := G_0.out.below HBL.out
      obtain ⟨vb0, vb1⟩ := VB.out
      have hc0' := (hbel.cell (p := ⟨g, k * 2, none⟩) hgl).trans hc0
      have hc1' := (hbel.cell (p := ⟨g, k * 2 + 1, none⟩) hgl).trans hc1
      have hq10 : 0 < q.1.length := by omega
      rw [hcd] at HCM ⊢
      have HES := Lib.hid (show IsInts (wr.alloc (.cells #[.slice (some ⟨b0, off0, none⟩) q.1.length x2, .slice y1 q.2.length y2] 92)) (some ⟨rb, ro + c, none⟩) es from by
        have h := ((R_0.out.below HBL.out).ints).1
        have h2 := (h.tail c).init (wid q.1)
        rwa [hes] at h2)
      have HOA := Lib.hid (own_below HO.out hal)
      have hoff := fun hi => off_own (hi := hi) HO.out
      have HOFF := Lib.hid hoff
      clear hoff
      have hs1 : (wr.alloc (.cells #[.slice (some ⟨b0, off0, none⟩) q.1.length x2, .slice y1 q.2.length y2] 92)).heap.size = wr.heap.size + 1 := by simp
      have hsW : W.heap.size ≤ wr.heap.size := hbel.size
      have hx8 : xs.length ≤ 8 := by omega
      clear hL0 hqr hqi hqe hiz hdz hde hd hcs hesi hxe himg hxl hal hsq hiq hqm hxs hes hesl hcz hc0 hc1 hcd
      go_wp2_with fail
      generalize hw1 : wr.alloc (.cells #[.slice (some ⟨b0, off0, none⟩) q.1.length x2, .slice y1 q.2.length y2] 92) = w1 at *
      go_region_held3 (fun w' => w'.cell? ⟨w.heap.size, 0, none⟩ = some (.int .i64 P) ∧ w'.cell? ⟨w.heap.size, 1, none⟩ = some (.int .i64 Q) ∧ w'.cell? ⟨w.heap.size, 2, none⟩ = some (.int .i64 G) ∧ w'.cell? ⟨wr.heap.size, 0, none⟩ = some (.slice (some ⟨b0, off0, none⟩) q.1.length x2) ∧ w'.cell? ⟨wr.heap.size, 1, none⟩ = some (.slice y1 q.2.length y2)) (first | with_reducible exact ⟨s0, s1, s2, t0, t1⟩ | exact ⟨g0, g1, g2, vb0, vb1⟩) ((first
        | (go_at_call 123; refine (HIMG.out _ _ _ (HSQ.out.belowP HBL.out).dr HES.out).mono ?_; rintro e w3 ⟨rx, rfl, ho, hb⟩; obtain ⟨xa, xc, rfl⟩ := ho.toIn.shape; have hb3 : Below w1.heap.size w1 w3 := bt ((Below.refl _ w1).drew) hb; have XO := Lib.hid ho; have HB3 := Lib.hid (bt HBL.out hb3); have HO3 := Lib.hid (own_below HOA.out hb3); have VB3 := Lib.hid (VB.out.below hb3); have HSZ := Lib.hid (Nat.le_trans (Nat.le_of_eq hs1.symm) hb3.size); obtain ⟨s0, s1, s2⟩ := G_0.out.below HB3.out; obtain ⟨t0, t1⟩ := VB3.out; clear hb hb3 ho)
        | fail))
      all_goals (
        clear s0 s1 s2 t0 t1 g0 g1 g2 vb0 vb1 hcz' hc0' hc1' HES HOA
        generalize hN : wr.heap.size = N at *
        clear hN
        go_wp2_with fail
        all_goals (
        go_loopg [7, 42] xs.length (fun gj V J wj => ∃ (j : Nat) (vb : Option Addr) (vd : Nat), gj + j = xs.length ∧ j ≤ xs.length ∧ J = .int .i64 j ∧ V = .slice vb (A.length + j) vd ∧ wj.ownsRow W.heap.size 3 1 (.slice vb (A.length + j) vd) (A.length + j) ((A ++ (List.zipWith (fun x y => decW P Q y x e) xs q.2).take j).map (Value.int .i64)) ∧ Off N w3.heap.size vb ∧ Keep N w3.heap.size w3 wj ∧ Below W.heap.size W wj)
        case atStart => exact ⟨0, va, vc, by omega, Nat.zero_le _, rfl, rfl, by simpa using HO3.out, HOFF.out _, Keep.refl _ _, HB3.out⟩
        case round =>
          obtain ⟨j, vb, vd, hgj, hj, rfl, rfl, hownj, hoffj, hkeep, hbelj⟩ := hrel
          have HGJ := Lib.hid hgj
          have HOJ := Lib.hid hownj
          have HKJ := Lib.hid hkeep
          have HOFJ := Lib.hid hoffj
          have HBJ := Lib.hid hbelj
          have HXJ := Lib.hid (own_ints (own_block XO.out.1 (fun g hg => hkeep.2 g (by have := (XO.out.1.lt g hg).1; have h2 := hs1; simp at this; omega) (XO.out.2.1 g hg)))).1
          clear hgj hownj hkeep hoffj
          by_cases hjm : j < xs.length
          · obtain ⟨xb, xo, x, hxa, hxb, hcx, hdx⟩ := HXJ.out.at (k := j) hjm
            obtain ⟨yb, yo, y, hya, hyb, hcy, hdy⟩ := (HIQ.out.ints).1.at (k := j) (by rw [HYL.out, ← HXL.out]; exact hjm)
            have hxr := HXE.out x (mem_drop hdx)
            have hye := HYE.out y (mem_drop hdy)
            have hyr := el_rng hye
            have HZS := Lib.hid (zip_take (P := P) (Q := Q) (e := e) hdx hdy)
            have hpr := pow_lt y e P hP2.1
            have hpe := el_pow HG.out hye her.1
            have hiv := inv_el HG.out hpe
            have hir := pow_lt (Num.pow y e P) (Q - 1) P hP2.1
            have HOK := Lib.hid hiv.1
            have HIV := Lib.hid (show x * Num.inv (Num.pow y e P) P % P = decW P Q y x e by rw [hiv.2]; rfl)
            have hi0 : 0 ≤ Num.inv (Num.pow y e P) P ∧ Num.inv (Num.pow y e P) P < P := by rw [hiv.2]; exact hir
            obtain ⟨hiv0, hiv1⟩ := hi0
            obtain ⟨g0, g1, g2⟩ := G_0.out.below hbelj
            obtain ⟨pv0, pv1, pv2, _⟩ := V_0.out.below hbelj
            have hbx := HKJ.out.cell (Nat.le_refl _) (by have := HSZ.out; omega) VB3.out.2
            have hyy := (hbelj.cell (p := ⟨yb, yo + j, none⟩) hyb).trans hcy
            have hee := (hbelj.cell (p := ⟨eb, eo + k, none⟩) hbb).trans hce
            have hjy : (j : Int) < (q.2.length : Int) := by have := HYL.out; have := HXL.out; omega
            have hkh : (k : Int) < (p.h.length : Int) := by have := HH.out; omega
            subst hxa hya
            clear hdx hdy hye hpe hiv hir hcy hce
            go_wp2_with fail
            go_region_held3 (fun w' => (w'.cell? ⟨w.heap.size, 0, none⟩ = some (.int .i64 P) ∧ w'.cell? ⟨w.heap.size, 1, none⟩ = some (.int .i64 Q) ∧ w'.cell? ⟨w.heap.size, 2, none⟩ = some (.int .i64 G)) ∧ w'.cell? ⟨N, 1, none⟩ = some (.slice (some ⟨yb, yo, none⟩) q.2.length y2) ∧ w'.cell? ⟨w.heap.size + 1, 1, none⟩ = some (.slice (some ⟨eb, eo, none⟩) p.h.length c2) ∧ w'.cell? ⟨yb, yo + j, none⟩ = some (.int .i64 y) ∧ w'.cell? ⟨eb, eo + k, none⟩ = some (.int .i64 e)) (first | with_reducible exact ⟨⟨s0, s1, s2⟩, t0, t1, t2, t3⟩ | exact ⟨⟨g0, g1, g2⟩, hbx, pv1, hyy, hee⟩) ((first
              | (go_at_call 129; refine (power_any P Q G y e hyr.1 (by omega) her.1 (by omega) hP2.1 hP2.2 _).mono ?_; rintro e' wp ⟨rfl, hb⟩; have hbp : Below wr.heap.size wr wp := bt ((Below.refl _ wr).drew) hb; have HBP := Lib.hid (bt HBJ.out hbp); have HKP := Lib.hid (HKJ.out.below hbp); have HOP := Lib.hid (own_below HOJ.out hbp); obtain ⟨s0, s1, s2⟩ := G_0.out.below HBP.out; have t0 := hbp.cell (p := ⟨N, 1, none⟩) (by have h1 := HKJ.out.1; have h2 := HSZ.out; show N < wr.heap.size; omega) |>.trans hbx; obtain ⟨_, t1, _, _⟩ := V_0.out.below HBP.out; have t2 := (hbp.cell (p := ⟨yb, yo + j, none⟩) (Nat.lt_of_lt_of_le hyb HBJ.out.size)).trans hyy; have t3 := (hbp.cell (p := ⟨eb, eo + k, none⟩) (Nat.lt_of_lt_of_le hbb HBJ.out.size)).trans hee; clear hb hbp)
              | fail))
            all_goals (
              clear g0 g1 g2 pv0 pv1 pv2 hbx hyy hee
              go_wp2_with fail
              refine (ediv_any P x (Num.pow y e P) hP2.1 hP2.2 hxr.1 hxr.2 hpr.1 hpr.2 HOK.out hiv0 hiv1 _).mono ?_
              rintro e' w' ⟨rfl, rfl⟩
              rw [HIV.out]
              go_wp2_with (at_builtin; refine wpList_append_lies _ rfl _ _ 25 rfl W.heap.size 3 i0 (.int .i64 0) 1 8 Try.underlying25 hi0 hz0 hz1 hz2 rfl (by decide) _ _ _ rfl (HOP.out.alloc _) ⟨wp.heap.size, 0, none⟩ 1 1 [.int .i64 (decW P Q y x e)] rfl rfl (cell_one_new _ _ _) (ints_oneCell .i64 [decW P Q y x e]) (by decide) (by unfold maxLen; have := HXL.out; omega) (by have := HXL.out; omega) (by have := HBP.out.size; simp; omega) (wp.heap.size + 1) (by simp) ?_)
              intro gx cx w4 hown4 hgr4 hat4 hlt4
              have HO4 := Lib.hid (show w4.ownsRow W.heap.size 3 1 (.slice (some ⟨gx, 0, none⟩) (A.length + j + 1) cx) (A.length + j + 1) ((A ++ (List.zipWith (fun x y => decW P Q y x e) xs q.2).take (j + 1)).map (Value.int .i64)) from by
                rw [HZS.out, ← List.append_assoc, List.map_append]
                first | exact hown4 | simpa using hown4)
              have HF4 := Lib.hid (HOFJ.out.next hat4 (by have := HKP.out.1; omega))
              have HK4 := Lib.hid ((HKP.out.below (ba wp _)).grown HOFJ.out hgr4)
              have HB4 := Lib.hid ((HBP.out.alloc HBP.out.size _).grown hgr4 (by have := HBP.out.size; simp; omega) (fun q hq => (HOP.out.lt q hq).1))
              clear hown4 hgr4 hat4 hlt4
              go_wp2_with fail
              go_roundg (xs.length - (j + 1))
              case measure => have := HGJ.out; omega
              case rel => exact ⟨j + 1, _, cx, by omega, by omega, by go_num, rfl, HO4.out, HF4.out, HK4.out, HB4.out⟩)
          · obtain rfl : j = xs.length := by omega
            have hzl : (List.zipWith (fun x y => decW P Q y x e) xs q.2).length = xs.length := by
              rw [List.length_zipWith, HYL.out, HXL.out, Nat.min_self]
            have HO5 := Lib.hid (show wr.ownsRow W.heap.size 3 1 (.slice vb (A ++ List.zipWith (fun x y => decW P Q y x e) xs q.2).length vd) (A ++ List.zipWith (fun x y => decW P Q y x e) xs q.2).length ((A ++ List.zipWith (fun x y => decW P Q y x e) xs q.2).map (Value.int .i64)) from by
              have h := HOJ.out
              rw [List.take_of_length_le (by omega)] at h
              rwa [List.length_append, hzl])
            have HLE := Lib.hid (show (A ++ List.zipWith (fun x y => decW P Q y x e) xs q.2).length = A.length + xs.length by rw [List.length_append, hzl])
            clear hzl
            go_wp2_with fail
            go_roundg (ps.length - (k + 1))
            case measure => have := HGK.out; omega
            case rel =>
              refine ⟨k + 1, vb, vd, A ++ List.zipWith (fun x y => decW P Q y x e) xs q.2, ?_⟩
              rw [HCS.out]
              have h1 := HCM.out
              rw [HNEXT.out, HZP.out, ← List.append_assoc, HW0.out] at h1
              by_cases hcc : c3 - c = z0.length
              · refine ⟨c, by omega, by omega, by go_num, by rw [HLE.out], HO5.out, by have := HLE.out; have := HXL.out; omega, ?_, fun h => by omega, h1, HBJ.out⟩
                first | (exfalso; omega) | (rw [show c3 - (c + z0.length) = 0 by omega, Nat.sub_sub])
              · refine ⟨c + z0.length, by omega, by omega, by go_num, by rw [HLE.out], HO5.out, by have := HLE.out; have := HXL.out; omega, ?_, fun _ => rfl, h1, HBJ.out⟩
                first | (exfalso; omega) | (rw [Nat.add_assoc, Nat.sub_sub, Nat.sub_sub])))
    · obtain rfl : k = ps.length := by omega
      have h1 := HCM.out
      rw [List.drop_length] at h1
      have h2 : ∀ a b : List Int, cmts P Q [] a b = [] := fun a b => rfl
      rw [h2, List.append_nil] at h1
      have HC1 := Lib.hid h1
      have hwW : w.heap.size ≤ W.heap.size := HB_0.out.size
      clear hbel h1 h2
      go_wp2_with fail
      go_ret
      refine ⟨.slice va A.length vc, rfl, ?_, HB.out⟩
      rw [HC1.out]
      exact (owI_mk HO.out HBk.out.size).wide hwW (Nat.le_refl _) (Nat.le_refl _)

end Go.Proofs.Ytlgdcfficemebaa

/- Sigma proofs, the program: what is left of a challenge; the verifier; the prover. -/
namespace Go.Proofs.Ytlgdcfficemebaa
open Go.RowKit
set_option linter.unusedVariables false
set_option linter.unusedSimpArgs false

theorem ssub_any (q a b : Int) (h2 : 2 ≤ q) (h3 : q ≤ 2000000000) (ha0 : 0 ≤ a) (ha : a < q) (hb0 : 0 ≤ b) (hb : b < q) (w : World) :
    Calls Try.prog 141 #[.int .i64 q, .int .i64 a, .int .i64 b] w fun e w' => e = .returned (.int .i64 ((a - b) % q)) ∧ w = w' := by
  go_enter Try.func141, Try.ntmps141
  go_wp2
  go_ret
  refine ⟨?_, rfl⟩
  show Ending.returned (.int .i64 ((a - b + q) % q)) = _
  rw [Int.add_emod_right]
theorem subF_step {Q e t : Int} {cs rest : List Int} {c : Int} {k : Nat} (h : cs.drop k = c :: rest) (ht : t = subF Q e (cs.drop k)) : t = subF Q ((e - c) % Q) rest := by
  rw [ht, h, ← Int.add_emod_right]; rfl

theorem InE.dr {P : Nat} {w : World} {v : Value} {zs : List Int} (h : InE P w v zs) : InE P w.drew v zs := h
/-- What is left of a challenge, if there is one. -/
def msV (P Q G : Int) (s : ByteArray) (els cm ch : List Int) : Int := if chB P Q G s (els ++ cm) 3 then subF Q (chX P Q G s (els ++ cm)) ch else 0
def EqOut (v : Value) (w : World) (e : Ending) (w' : World) : Prop := e = .returned v ∧ Below w.heap.size w w'

theorem rows_pair {B C : Nat} {w : World} {x y : Value} {a b : List Int} (hx : InI B w x a) (hy : InI C w y b) (t : TypeId) : InS (w.alloc (.cells #[x, y] t)).heap.size (w.alloc (.cells #[x, y] t)) (.slice (some ⟨w.heap.size, 0, none⟩) 2 2) [a, b] := by
  have hb := ba w (.cells #[x, y] t)
  have h1 := hx.below hb
  have h2 := hy.below hb
  refine ⟨Nat.le_refl _, some ⟨w.heap.size, 0, none⟩, 2, rfl, (fun h => by cases h), .inr ⟨w.heap.size, 0, rfl, by simp, by simp, fun i z hz => ?_⟩⟩
  match i, hz with
  | 0, hz =>
    simp only [List.getElem?_cons_zero, Option.some.injEq] at hz; subst hz
    exact ⟨x, cell_here _ _ _ rfl _ _ _ rfl, h1.wide h1.le (Nat.le_refl _)⟩
  | 1, hz =>
    simp only [List.getElem?_cons_succ, List.getElem?_cons_zero, Option.some.injEq] at hz; subst hz
    exact ⟨y, cell_here _ _ _ rfl _ _ _ rfl, h2.wide h2.le (Nat.le_refl _)⟩
theorem concatRows_any {B : Nat} {v : Value} {w : World} {a b : List Int} (hl : a.length + b.length ≤ 4000000) (h0 : 0 < a.length) (hz : InS B w v [a, b]) :
    Calls Try.prog 147 #[v] w (OwnI w (a ++ b)) := by
  have h := concat_any (rows := [a, b]) (by simp) (by simp only [nS_cons]; simp [nS]; omega) (by simp only [nS_cons]; simp [nS]; omega) hz
  rwa [show [a, b].flatten = a ++ b by simp] at h

end Go.Proofs.Ytlgdcfficemebaa

