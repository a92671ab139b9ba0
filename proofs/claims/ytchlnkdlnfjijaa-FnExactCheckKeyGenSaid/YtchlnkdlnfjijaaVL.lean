/- The cells of a block that may be written, by a list. -/
import Derived.Test.YtchlnkdlnfjijaaShT
import Derived.OpenShut
import Derived.Lib.SmallJoins
namespace Go.Proofs.Ytchlnkdlnfjijaa
open Go.RowKit
set_option linter.unusedVariables false
set_option linter.unusedSimpArgs false

def VL (w : World) (b : Nat) (xs : List Value) : Prop := (∀ (i : Nat) x, xs[i]? = some x → w.cell? ⟨b, i, none⟩ = some x) ∧ (∀ i, w.frozen? ⟨b, i, none⟩ = false) ∧ b < w.heap.size
theorem vl_at (w : World) (b : Nat) (hb : w.heap.size = b) (xs : List Value) (t : TypeId) : VL (w.alloc (.cells xs.toArray t)) b xs := by
  subst hb
  refine ⟨fun i x hx => ?_, fun _ => World.frozen?_alloc_at _ _ _ _ rfl, by simp⟩
  rw [World.cell?_alloc_at _ _ _ _ rfl]
  simpa using hx
theorem VL.lt {w : World} {b : Nat} {xs : List Value} (h : VL w b xs) : b < w.heap.size := h.2.2
theorem VL.belowB {w w' : World} {b B : Nat} {xs : List Value} (h : VL w b xs) (hb : Below B w w') (hl : b < B) : VL w' b xs := by
  refine ⟨fun i x hx => ?_, fun i => ?_, Nat.lt_of_lt_of_le h.2.2 hb.size⟩
  · rw [hb.cell (p := ⟨b, i, none⟩) hl]; exact h.1 i x hx
  · rw [hb.frozen (p := ⟨b, i, none⟩) hl]; exact h.2.1 i
theorem VL.below {w w' : World} {b : Nat} {xs : List Value} (h : VL w b xs) (hb : Below w.heap.size w w') : VL w' b xs := h.belowB hb h.2.2
theorem VL.mid {w w' : World} {b Q P : Nat} {xs : List Value} (h : VL w b xs) (hm : Mid Q P w w') (ho : b < Q ∨ P ≤ b) : VL w' b xs := by
  have he := hm.block b h.2.2 ho
  refine ⟨fun i x hx => ?_, fun i => ?_, Nat.lt_of_lt_of_le h.2.2 hm.size⟩
  · rw [World.cell?_of_block (a := ⟨b, i, none⟩) he]; exact h.1 i x hx
  · rw [World.frozen?_of_block (a := ⟨b, i, none⟩) he]; exact h.2.1 i
theorem VL.other {w : World} {b : Nat} {xs : List Value} (h : VL w b xs) (a : Addr) (v : Value) (hne : a.block ≠ b) : VL (w.setCell a v) b xs := by
  refine ⟨fun i x hx => ?_, fun i => by rw [World.frozen?_setCell]; exact h.2.1 i, by simpa using h.2.2⟩
  rw [World.cell?_setCell_other _ _ _ _ (fun e => hne (by rw [e]))]; exact h.1 i x hx
theorem VL.set {w : World} {b : Nat} {xs : List Value} (h : VL w b xs) (j : Nat) (v : Value) (hj : j < xs.length) : VL (w.setCell ⟨b, j, none⟩ v) b (xs.set j v) := by
  refine ⟨fun i x hx => ?_, fun i => by rw [World.frozen?_setCell]; exact h.2.1 i, by simpa using h.2.2⟩
  by_cases e : j = i
  · subst e
    rw [List.getElem?_set_self hj] at hx
    cases hx
    exact World.cell?_setCell_same _ _ _ (h.1 j _ (List.getElem?_eq_getElem hj))
  · rw [List.getElem?_set_ne e] at hx
    rw [World.cell?_setCell_other _ _ _ _ (by simp [e])]; exact h.1 i x hx

end Go.Proofs.Ytchlnkdlnfjijaa

/- KeyGen: how the laws copy, compare, measure, mark and hold it. -/
namespace Go.Proofs.Ytchlnkdlnfjijaa
open Go.RowKit Go.ChangeShapes Go.WideShapes Go.ChangeAt Go.Joins Go.Deep
set_option linter.unusedVariables false
set_option linter.unusedSimpArgs false

structure KgD where
  q : List Int
  k : Int
  c : List Int
  s : List Int
def KgD.n (d : KgD) : Nat := d.q.length + d.c.length + d.s.length
def mkK (k : Int) (d : KgD) : KgD := ⟨mkI (k) d.q, d.k, mkI (k + d.q.length) d.c, mkI (k + d.q.length + d.c.length) d.s⟩
def InK (P : Nat) (w : World) (v : Value) (d : KgD) : Prop := ∃ xq xc xs, v = .agg #[xq, .int .i64 d.k, xc, xs] ∧ InI P w xq d.q ∧ InI P w xc d.c ∧ InI P w xs d.s
def OwK (Q P : Nat) (w : World) (v : Value) (d : KgD) : Prop := ∃ xq xc xs M1 M2, v = .agg #[xq, .int .i64 d.k, xc, xs] ∧ OwI Q M1 w xq d.q ∧ OwI M1 M2 w xc d.c ∧ OwI M2 P w xs d.s
theorem InK.below {P : Nat} {w w' : World} {v : Value} {d : KgD} (h : InK P w v d) (hb : Below w.heap.size w w') : InK P w' v d := by
  obtain ⟨xq, xc, xs, rfl, h1, h2, h3⟩ := h
  exact ⟨xq, xc, xs, rfl, h1.below hb, h2.below hb, h3.below hb⟩
theorem InK.mid {P : Nat} {w w' : World} {v : Value} {d : KgD} (h : InK P w v d) {A B : Nat} (hm : Mid A B w w') (hA : P ≤ A) : InK P w' v d := by
  obtain ⟨xq, xc, xs, rfl, h1, h2, h3⟩ := h
  exact ⟨xq, xc, xs, rfl, h1.mid hm hA, h2.mid hm hA, h3.mid hm hA⟩
theorem InK.le {P : Nat} {w : World} {v : Value} {d : KgD} (h : InK P w v d) : P ≤ w.heap.size := by
  obtain ⟨xq, xc, xs, rfl, h1, h2, h3⟩ := h
  exact h1.le
theorem OwK.below {Q P : Nat} {w w' : World} {v : Value} {d : KgD} (h : OwK Q P w v d) (hb : Below w.heap.size w w') : OwK Q P w' v d := by
  obtain ⟨xq, xc, xs, M1, M2, rfl, h1, h2, h3⟩ := h
  exact ⟨xq, xc, xs, M1, M2, rfl, h1.below hb, h2.below hb, h3.below hb⟩
theorem OwK.mid {Q P : Nat} {w w' : World} {v : Value} {d : KgD} (h : OwK Q P w v d) {A B : Nat} (hm : Mid A B w w') (ho : P ≤ A ∨ B ≤ Q) : OwK Q P w' v d := by
  obtain ⟨xq, xc, xs, M1, M2, rfl, h1, h2, h3⟩ := h
  have q1 := h1.2.2.2
  have q2 := h2.2.2.2
  have q3 := h3.2.2.2
  exact ⟨xq, xc, xs, M1, M2, rfl, h1.mid hm (by omega), h2.mid hm (by omega), h3.mid hm (by omega)⟩
theorem OwK.wide {Q P : Nat} {w : World} {v : Value} {d : KgD} (h : OwK Q P w v d) {Q' P' : Nat} (hQ : Q' ≤ Q) (hP : P ≤ P') (hs : P' ≤ w.heap.size := by exact Nat.le_refl _) : OwK Q' P' w v d := by
  obtain ⟨xq, xc, xs, M1, M2, rfl, h1, h2, h3⟩ := h
  exact ⟨xq, xc, xs, M1, M2, rfl, h1.wide hQ (Nat.le_refl _) h1.2.2.1, h2, h3.wide (Nat.le_refl _) hP hs⟩
theorem OwK.toIn {Q P : Nat} {w : World} {v : Value} {d : KgD} (h : OwK Q P w v d) : InK P w v d := by
  obtain ⟨xq, xc, xs, M1, M2, rfl, h1, h2, h3⟩ := h
  have q1 := h1.2.2.2
  have q2 := h2.2.2.2
  have q3 := h3.2.2.2
  have q9 := h3.2.2.1
  exact ⟨xq, xc, xs, rfl, h1.toIn.wide (by omega) q9, h2.toIn.wide (by omega) q9, h3.toIn.wide (by omega) q9⟩
theorem OwK.le {Q P : Nat} {w : World} {v : Value} {d : KgD} (h : OwK Q P w v d) : P ≤ w.heap.size := h.toIn.le
theorem InK.shape {P : Nat} {w : World} {v : Value} {d : KgD} (h : InK P w v d) : ∃ qa qc ca cc sa sc, v = .agg #[.slice qa d.q.length qc, .int .i64 d.k, .slice ca d.c.length cc, .slice sa d.s.length sc] ∧ InI P w (.slice qa d.q.length qc) d.q ∧ InI P w (.slice ca d.c.length cc) d.c ∧ InI P w (.slice sa d.s.length sc) d.s := by
  obtain ⟨xq, xc, xs, rfl, h1, h2, h3⟩ := h
  obtain ⟨qa, qc, rfl⟩ := h1.shape
  obtain ⟨ca, cc, rfl⟩ := h2.shape
  obtain ⟨sa, sc, rfl⟩ := h3.shape
  exact ⟨qa, qc, ca, cc, sa, sc, rfl, h1, h2, h3⟩
theorem owK_nil (Q : Nat) (w : World) (hQ : Q ≤ w.heap.size) : OwK Q w.heap.size w (.agg #[.slice none 0 0, .int .i64 0, .slice none 0 0, .slice none 0 0]) ⟨[], 0, [], []⟩ :=
  ⟨_, _, _, _, _, rfl, owI_nil Q w hQ, owI_nil _ w (Nat.le_refl _), owI_nil _ w (Nat.le_refl _)⟩

def MadeK (w : World) (d : KgD) (e : Ending) (w' : World) : Prop := ∃ v, e = .returned v ∧ OwK w.heap.size w'.heap.size w' v d ∧ Below w.heap.size w w'
def MarkK (Q P : Nat) (w : World) (d : KgD) (v : Value) (k : Int) (e : Ending) (w' : World) : Prop := e = .returned (.int .i64 (k + (d.n : Int))) ∧ OwK Q P w' v (mkK k d) ∧ Mid Q P w w'

set_option maxRecDepth 100000 in
set_option maxHeartbeats 3200000 in
theorem toK_any {P : Nat} {w : World} {v : Value} {d : KgD} (h : InK P w v d) (hl : d.n ≤ 17592186044416) :
    Calls Try.prog 58 #[v] w (MadeK w d) := by
  have hP := h.le
  obtain ⟨qa, qc, ca, cc, sa, sc, rfl, h1, h2, h3⟩ := h.shape
  clear h
  obtain ⟨hl1, hl2, hl3⟩ : d.q.length ≤ 17592186044416 ∧ d.c.length ≤ 17592186044416 ∧ d.s.length ≤ 17592186044416 := by unfold KgD.n at hl; omega
  have hb2 := bt (bt (ba w (.cells #[.slice qa d.q.length qc, .int .i64 d.k, .slice ca d.c.length cc, .slice sa d.s.length sc] 78)) (ba _ (.cells #[.slice none 0 0, .int .i64 0, .slice none 0 0, .slice none 0 0] 31))) (ba _ (.cells #[.slice none 0 0, .int .i64 0, .slice none 0 0, .slice none 0 0] 31))
  have HX_0 := Lib.hid (((vl_at w w.heap.size rfl [.slice qa d.q.length qc, .int .i64 d.k, .slice ca d.c.length cc, .slice sa d.s.length sc] 78).below (ba _ (.cells #[.slice none 0 0, .int .i64 0, .slice none 0 0, .slice none 0 0] 31))).below (ba _ (.cells #[.slice none 0 0, .int .i64 0, .slice none 0 0, .slice none 0 0] 31)))
  have HY_0 := Lib.hid ((vl_at (w.alloc (.cells #[.slice qa d.q.length qc, .int .i64 d.k, .slice ca d.c.length cc, .slice sa d.s.length sc] 78)) (w.heap.size + 1) (by simp) [.slice none 0 0, .int .i64 0, .slice none 0 0, .slice none 0 0] 31).below (ba _ (.cells #[.slice none 0 0, .int .i64 0, .slice none 0 0, .slice none 0 0] 31)))
  have HZ_0 := Lib.hid (vl_at ((w.alloc (.cells #[.slice qa d.q.length qc, .int .i64 d.k, .slice ca d.c.length cc, .slice sa d.s.length sc] 78)).alloc (.cells #[.slice none 0 0, .int .i64 0, .slice none 0 0, .slice none 0 0] 31)) (w.heap.size + 2) (by simp) [.slice none 0 0, .int .i64 0, .slice none 0 0, .slice none 0 0] 31)
  have Iq_0 := Lib.hid (h1.below hb2)
  have Ic_0 := Lib.hid (h2.below hb2)
  have Is_0 := Lib.hid (h3.below hb2)
  have HB_0 := Lib.hid hb2
  clear hb2 h1 h2 h3
  have hx0 := HX_0.out.1 0 _ rfl
  have hx1 := HX_0.out.1 1 _ rfl
  have hx2 := HX_0.out.1 2 _ rfl
  have hx3 := HX_0.out.1 3 _ rfl
  have hz0 := HZ_0.out.1 0 _ rfl
  have hz1 := HZ_0.out.1 1 _ rfl
  have hz2 := HZ_0.out.1 2 _ rfl
  have hz3 := HZ_0.out.1 3 _ rfl
  have hzf0 := HZ_0.out.2.1 0
  have hzf1 := HZ_0.out.2.1 1
  have hzf2 := HZ_0.out.2.1 2
  have hzf3 := HZ_0.out.2.1 3
  go_enter Try.func58, Try.ntmps58
  go_wp2_with fail
  refine (toI_any Iq_0.out hl1).mono ?_
  rintro e w1 ⟨v1, rfl, ho, hb⟩
  obtain ⟨nq, mq, rfl⟩ := own_shape ho.1
  have Ic_1 := Lib.hid (Ic_0.out.below hb)
  have Is_1 := Lib.hid (Is_0.out.below hb)
  have HX_1 := Lib.hid (HX_0.out.below hb)
  have HY_1 := Lib.hid (HY_0.out.below hb)
  have HZ_1 := Lib.hid (HZ_0.out.below hb)
  have HB_1 := Lib.hid (bt HB_0.out hb)
  have Oq_1 := Lib.hid (ho.wide (Q' := w.heap.size + 3) (by simp) (Nat.le_refl _) (Nat.le_refl _))
  clear hb ho hx0 hz0 hzf0 hx1 hz1 hzf1 hx2 hz2 hzf2 hx3 hz3 hzf3
  have hx0 := HX_1.out.1 0 _ rfl
  have hx1 := HX_1.out.1 1 _ rfl
  have hx2 := HX_1.out.1 2 _ rfl
  have hx3 := HX_1.out.1 3 _ rfl
  have hz0 := HZ_1.out.1 0 _ rfl
  have hz1 := HZ_1.out.1 1 _ rfl
  have hz2 := HZ_1.out.1 2 _ rfl
  have hz3 := HZ_1.out.1 3 _ rfl
  have hzf0 := HZ_1.out.2.1 0
  have hzf1 := HZ_1.out.2.1 1
  have hzf2 := HZ_1.out.2.1 2
  have hzf3 := HZ_1.out.2.1 3
  go_wp2_with fail
  clear hx0 hz0 hzf0 hx1 hz1 hzf1 hx2 hz2 hzf2 hx3 hz3 hzf3
  have Ic_2 := Lib.hid (Ic_1.out.belowP (((Below.refl P w1).setCell (p := ⟨w.heap.size + 2, 0, none⟩) (Nat.le_trans hP (Nat.le_add_right _ _)) (.slice nq d.q.length mq)).setCell (p := ⟨w.heap.size + 2, 1, none⟩) (Nat.le_trans hP (Nat.le_add_right _ _)) (.int .i64 d.k)))
  have Is_2 := Lib.hid (Is_1.out.belowP (((Below.refl P w1).setCell (p := ⟨w.heap.size + 2, 0, none⟩) (Nat.le_trans hP (Nat.le_add_right _ _)) (.slice nq d.q.length mq)).setCell (p := ⟨w.heap.size + 2, 1, none⟩) (Nat.le_trans hP (Nat.le_add_right _ _)) (.int .i64 d.k)))
  have HX_2 := Lib.hid ((HX_1.out.other ⟨w.heap.size + 2, 0, none⟩ (.slice nq d.q.length mq) (by simp)).other ⟨w.heap.size + 2, 1, none⟩ (.int .i64 d.k) (by simp))
  have HY_2 := Lib.hid ((HY_1.out.other ⟨w.heap.size + 2, 0, none⟩ (.slice nq d.q.length mq) (by simp)).other ⟨w.heap.size + 2, 1, none⟩ (.int .i64 d.k) (by simp))
  have HZ_2 := Lib.hid (show VL _ _ [.slice nq d.q.length mq, .int .i64 d.k, .slice none 0 0, .slice none 0 0] from (HZ_1.out.set 0 (.slice nq d.q.length mq) (by simp)).set 1 (.int .i64 d.k) (by simp))
  have Oq_2 := Lib.hid ((Oq_1.out.mid (mid_cell w1 (w.heap.size + 2) 0 (.slice nq d.q.length mq)) (.inr (Nat.le_refl _))).mid (mid_cell _ (w.heap.size + 2) 1 (.int .i64 d.k)) (.inr (Nat.le_refl _)))
  have HB_2 := Lib.hid ((HB_1.out.setCell (p := ⟨w.heap.size + 2, 0, none⟩) (Nat.le_add_right _ _) (.slice nq d.q.length mq)).setCell (p := ⟨w.heap.size + 2, 1, none⟩) (Nat.le_add_right _ _) (.int .i64 d.k))
  clear HX_1 HY_1 HZ_1 HB_1 Ic_1 Is_1 Oq_1
  have hx0 := HX_2.out.1 0 _ rfl
  have hx1 := HX_2.out.1 1 _ rfl
  have hx2 := HX_2.out.1 2 _ rfl
  have hx3 := HX_2.out.1 3 _ rfl
  have hz0 := HZ_2.out.1 0 _ rfl
  have hz1 := HZ_2.out.1 1 _ rfl
  have hz2 := HZ_2.out.1 2 _ rfl
  have hz3 := HZ_2.out.1 3 _ rfl
  have hzf0 := HZ_2.out.2.1 0
  have hzf1 := HZ_2.out.2.1 1
  have hzf2 := HZ_2.out.2.1 2
  have hzf3 := HZ_2.out.2.1 3
  skip
  refine (toI_any Ic_2.out hl2).mono ?_
  rintro e w2 ⟨v2, rfl, ho, hb⟩
  obtain ⟨nc, mc, rfl⟩ := own_shape ho.1
  have Is_3 := Lib.hid (Is_2.out.below hb)
  have HX_3 := Lib.hid (HX_2.out.below hb)
  have HY_3 := Lib.hid (HY_2.out.below hb)
  have HZ_3 := Lib.hid (HZ_2.out.below hb)
  have Oq_3 := Lib.hid (Oq_2.out.below hb)
  have HB_3 := Lib.hid (bt HB_2.out hb)
  have Oc_3 := Lib.hid (ho.wide (Q' := w1.heap.size) (by simp) (Nat.le_refl _) (Nat.le_refl _))
  clear hb ho hx0 hz0 hzf0 hx1 hz1 hzf1 hx2 hz2 hzf2 hx3 hz3 hzf3
  have hx0 := HX_3.out.1 0 _ rfl
  have hx1 := HX_3.out.1 1 _ rfl
  have hx2 := HX_3.out.1 2 _ rfl
  have hx3 := HX_3.out.1 3 _ rfl
  have hz0 := HZ_3.out.1 0 _ rfl
  have hz1 := HZ_3.out.1 1 _ rfl
  have hz2 := HZ_3.out.1 2 _ rfl
  have hz3 := HZ_3.out.1 3 _ rfl
  have hzf0 := HZ_3.out.2.1 0
  have hzf1 := HZ_3.out.2.1 1
  have hzf2 := HZ_3.out.2.1 2
  have hzf3 := HZ_3.out.2.1 3
  go_wp2_with fail
  clear hx0 hz0 hzf0 hx1 hz1 hzf1 hx2 hz2 hzf2 hx3 hz3 hzf3
  have Is_4 := Lib.hid (Is_3.out.belowP ((Below.refl P w2).setCell (p := ⟨w.heap.size + 2, 2, none⟩) (Nat.le_trans hP (Nat.le_add_right _ _)) (.slice nc d.c.length mc)))
  have HX_4 := Lib.hid (HX_3.out.other ⟨w.heap.size + 2, 2, none⟩ (.slice nc d.c.length mc) (by simp))
  have HY_4 := Lib.hid (HY_3.out.other ⟨w.heap.size + 2, 2, none⟩ (.slice nc d.c.length mc) (by simp))
  have HZ_4 := Lib.hid (show VL _ _ [.slice nq d.q.length mq, .int .i64 d.k, .slice nc d.c.length mc, .slice none 0 0] from HZ_3.out.set 2 (.slice nc d.c.length mc) (by simp))
  have Oq_4 := Lib.hid (Oq_3.out.mid (mid_cell w2 (w.heap.size + 2) 2 (.slice nc d.c.length mc)) (.inr (Nat.le_refl _)))
  have HLEc := Lib.hid (show w.heap.size + 3 ≤ w1.heap.size from Oq_3.out.2.2.2)
  have Oc_4 := Lib.hid (Oc_3.out.mid (mid_cell w2 (w.heap.size + 2) 2 (.slice nc d.c.length mc)) (.inr HLEc.out))
  have HB_4 := Lib.hid (HB_3.out.setCell (p := ⟨w.heap.size + 2, 2, none⟩) (Nat.le_add_right _ _) (.slice nc d.c.length mc))
  clear HX_3 HY_3 HZ_3 HB_3 Is_3 Oq_3 Oc_3
  have hx0 := HX_4.out.1 0 _ rfl
  have hx1 := HX_4.out.1 1 _ rfl
  have hx2 := HX_4.out.1 2 _ rfl
  have hx3 := HX_4.out.1 3 _ rfl
  have hz0 := HZ_4.out.1 0 _ rfl
  have hz1 := HZ_4.out.1 1 _ rfl
  have hz2 := HZ_4.out.1 2 _ rfl
  have hz3 := HZ_4.out.1 3 _ rfl
  have hzf0 := HZ_4.out.2.1 0
  have hzf1 := HZ_4.out.2.1 1
  have hzf2 := HZ_4.out.2.1 2
  have hzf3 := HZ_4.out.2.1 3
  skip
  refine (toI_any Is_4.out hl3).mono ?_
  rintro e w3 ⟨v3, rfl, ho, hb⟩
  obtain ⟨ns, ms, rfl⟩ := own_shape ho.1
  have HX_5 := Lib.hid (HX_4.out.below hb)
  have HY_5 := Lib.hid (HY_4.out.below hb)
  have HZ_5 := Lib.hid (HZ_4.out.below hb)
  have Oq_5 := Lib.hid (Oq_4.out.below hb)
  have Oc_5 := Lib.hid (Oc_4.out.below hb)
  have HB_5 := Lib.hid (bt HB_4.out hb)
  have Os_5 := Lib.hid (ho.wide (Q' := w2.heap.size) (by simp) (Nat.le_refl _) (Nat.le_refl _))
  clear hb ho hx0 hz0 hzf0 hx1 hz1 hzf1 hx2 hz2 hzf2 hx3 hz3 hzf3
  have hx0 := HX_5.out.1 0 _ rfl
  have hx1 := HX_5.out.1 1 _ rfl
  have hx2 := HX_5.out.1 2 _ rfl
  have hx3 := HX_5.out.1 3 _ rfl
  have hz0 := HZ_5.out.1 0 _ rfl
  have hz1 := HZ_5.out.1 1 _ rfl
  have hz2 := HZ_5.out.1 2 _ rfl
  have hz3 := HZ_5.out.1 3 _ rfl
  have hzf0 := HZ_5.out.2.1 0
  have hzf1 := HZ_5.out.2.1 1
  have hzf2 := HZ_5.out.2.1 2
  have hzf3 := HZ_5.out.2.1 3
  have HLEs := Lib.hid (show w.heap.size + 3 ≤ w2.heap.size from (Nat.le_trans HLEc.out Oc_5.out.2.2.2))
  have hy0 := HY_5.out.1 0 _ rfl
  have hy1 := HY_5.out.1 1 _ rfl
  have hy2 := HY_5.out.1 2 _ rfl
  have hy3 := HY_5.out.1 3 _ rfl
  have hyf0 := HY_5.out.2.1 0
  have hyf1 := HY_5.out.2.1 1
  have hyf2 := HY_5.out.2.1 2
  have hyf3 := HY_5.out.2.1 3
  go_wp2
  (try simp only [Exit.inBlock, Exit.then])
  refine bodyPost_ret (v := .agg #[.slice nq d.q.length mq, .int .i64 d.k, .slice nc d.c.length mc, .slice ns d.s.length ms]) ?_ rfl ⟨_, rfl, ?_, ?_⟩
  · rw [results_cell_one rfl]; go_simp
  · have M := ((((((mid_cell w3 (w.heap.size + 2) 3 (.slice ns d.s.length ms)).wide (Q' := w.heap.size + 1) (P' := w.heap.size + 3) (by omega) (by omega)).trans ((mid_cell _ (w.heap.size + 1) 0 (.slice nq d.q.length mq)).wide (by omega) (by omega))).trans ((mid_cell _ (w.heap.size + 1) 1 (.int .i64 d.k)).wide (by omega) (by omega))).trans ((mid_cell _ (w.heap.size + 1) 2 (.slice nc d.c.length mc)).wide (by omega) (by omega))).trans ((mid_cell _ (w.heap.size + 1) 3 (.slice ns d.s.length ms)).wide (by omega) (by omega)))
    have oq := Oq_5.out.mid M (.inr (Nat.le_refl _))
    have oc := Oc_5.out.mid M (.inr HLEc.out)
    have os := Os_5.out.mid M (.inr HLEs.out)
    exact ⟨_, _, _, _, _, rfl, oq.wide (Nat.le_add_right _ _) (Nat.le_refl _) oq.2.2.1, oc, os.wide (Nat.le_refl _) M.size (Nat.le_refl _)⟩
  · exact (((((HB_5.out.setCell (show w.heap.size ≤ w.heap.size + 2 by omega) _).setCell (show w.heap.size ≤ w.heap.size + 1 by omega) _).setCell (show w.heap.size ≤ w.heap.size + 1 by omega) _).setCell (show w.heap.size ≤ w.heap.size + 1 by omega) _).setCell (show w.heap.size ≤ w.heap.size + 1 by omega) _)

set_option maxRecDepth 100000 in
set_option maxHeartbeats 3200000 in
theorem eqK_any {P P' : Nat} {w : World} {v v' : Value} {d : KgD} (h : InK P w v d) (h' : InK P' w v' d) (hl : d.n ≤ 17592186044416) :
    Calls Try.prog 54 #[v, v'] w fun e w' => e = .returned (.bool true) ∧ Below w.heap.size w w' := by
  obtain ⟨qa, qc, ca, cc, sa, sc, rfl, h1, h2, h3⟩ := h.shape
  obtain ⟨qa', qc', ca', cc', sa', sc', rfl, h1', h2', h3'⟩ := h'.shape
  clear h h'
  obtain ⟨hl1, hl2, hl3⟩ : d.q.length ≤ 17592186044416 ∧ d.c.length ≤ 17592186044416 ∧ d.s.length ≤ 17592186044416 := by unfold KgD.n at hl; omega
  have hb2 := bt (ba w (.cells #[.slice qa d.q.length qc, .int .i64 d.k, .slice ca d.c.length cc, .slice sa d.s.length sc] 31)) (ba _ (.cells #[.slice qa' d.q.length qc', .int .i64 d.k, .slice ca' d.c.length cc', .slice sa' d.s.length sc'] 31))
  have HX_0 := Lib.hid ((vl_at w w.heap.size rfl [.slice qa d.q.length qc, .int .i64 d.k, .slice ca d.c.length cc, .slice sa d.s.length sc] 31).below (ba _ (.cells #[.slice qa' d.q.length qc', .int .i64 d.k, .slice ca' d.c.length cc', .slice sa' d.s.length sc'] 31)))
  have HY_0 := Lib.hid (vl_at (w.alloc (.cells #[.slice qa d.q.length qc, .int .i64 d.k, .slice ca d.c.length cc, .slice sa d.s.length sc] 31)) (w.heap.size + 1) (by simp) [.slice qa' d.q.length qc', .int .i64 d.k, .slice ca' d.c.length cc', .slice sa' d.s.length sc'] 31)
  have Iq_0 := Lib.hid (h1.below hb2)
  have Ic_0 := Lib.hid (h2.below hb2)
  have Is_0 := Lib.hid (h3.below hb2)
  have Jq_0 := Lib.hid (h1'.below hb2)
  have Jc_0 := Lib.hid (h2'.below hb2)
  have Js_0 := Lib.hid (h3'.below hb2)
  have HB_0 := Lib.hid hb2
  clear hb2 h1 h2 h3 h1' h2' h3'
  have hx0 := HX_0.out.1 0 _ rfl
  have hx1 := HX_0.out.1 1 _ rfl
  have hx2 := HX_0.out.1 2 _ rfl
  have hx3 := HX_0.out.1 3 _ rfl
  have hy0 := HY_0.out.1 0 _ rfl
  have hy1 := HY_0.out.1 1 _ rfl
  have hy2 := HY_0.out.1 2 _ rfl
  have hy3 := HY_0.out.1 3 _ rfl
  go_enter Try.func54, Try.ntmps54
  go_wp2_with fail
  refine (eqI_any Iq_0.out Jq_0.out hl1).mono ?_
  rintro e w1 ⟨rfl, hb⟩
  have Ic_1 := Lib.hid (Ic_0.out.below hb)
  have Jc_1 := Lib.hid (Jc_0.out.below hb)
  have Is_1 := Lib.hid (Is_0.out.below hb)
  have Js_1 := Lib.hid (Js_0.out.below hb)
  have HX_1 := Lib.hid (HX_0.out.below hb)
  have HY_1 := Lib.hid (HY_0.out.below hb)
  have HB_1 := Lib.hid (bt HB_0.out hb)
  clear hb hx0 hy0 hx1 hy1 hx2 hy2 hx3 hy3
  have hx0 := HX_1.out.1 0 _ rfl
  have hx1 := HX_1.out.1 1 _ rfl
  have hx2 := HX_1.out.1 2 _ rfl
  have hx3 := HX_1.out.1 3 _ rfl
  have hy0 := HY_1.out.1 0 _ rfl
  have hy1 := HY_1.out.1 1 _ rfl
  have hy2 := HY_1.out.1 2 _ rfl
  have hy3 := HY_1.out.1 3 _ rfl
  go_wp2_with fail
  refine (eqI_any Ic_1.out Jc_1.out hl2).mono ?_
  rintro e w2 ⟨rfl, hb⟩
  have Is_2 := Lib.hid (Is_1.out.below hb)
  have Js_2 := Lib.hid (Js_1.out.below hb)
  have HX_2 := Lib.hid (HX_1.out.below hb)
  have HY_2 := Lib.hid (HY_1.out.below hb)
  have HB_2 := Lib.hid (bt HB_1.out hb)
  clear hb hx0 hy0 hx1 hy1 hx2 hy2 hx3 hy3
  have hx0 := HX_2.out.1 0 _ rfl
  have hx1 := HX_2.out.1 1 _ rfl
  have hx2 := HX_2.out.1 2 _ rfl
  have hx3 := HX_2.out.1 3 _ rfl
  have hy0 := HY_2.out.1 0 _ rfl
  have hy1 := HY_2.out.1 1 _ rfl
  have hy2 := HY_2.out.1 2 _ rfl
  have hy3 := HY_2.out.1 3 _ rfl
  go_wp2_with fail
  refine (eqI_any Is_2.out Js_2.out hl3).mono ?_
  rintro e w3 ⟨rfl, hb⟩
  have HX_3 := Lib.hid (HX_2.out.below hb)
  have HY_3 := Lib.hid (HY_2.out.below hb)
  have HB_3 := Lib.hid (bt HB_2.out hb)
  clear hb hx0 hy0 hx1 hy1 hx2 hy2 hx3 hy3
  have hx0 := HX_3.out.1 0 _ rfl
  have hx1 := HX_3.out.1 1 _ rfl
  have hx2 := HX_3.out.1 2 _ rfl
  have hx3 := HX_3.out.1 3 _ rfl
  have hy0 := HY_3.out.1 0 _ rfl
  have hy1 := HY_3.out.1 1 _ rfl
  have hy2 := HY_3.out.1 2 _ rfl
  have hy3 := HY_3.out.1 3 _ rfl
  go_wp2
  go_ret
  exact ⟨rfl, HB_3.out⟩

set_option maxRecDepth 100000 in
set_option maxHeartbeats 3200000 in
theorem markK_any {Q P : Nat} {w : World} {v : Value} {d : KgD} {k : Int} (h : OwK Q P w v d) (hk0 : 0 ≤ k) (hk1 : k ≤ 8796093022208) (hl : d.n ≤ 8796093022208) :
    Calls Try.prog 55 #[v, .int .i64 k] w (MarkK Q P w d v k) := by
  obtain ⟨xq, xc, xs, M1, M2, rfl, h1, h2, h3⟩ := h
  have q1 := h1.2.2.2
  have q2 := h2.2.2.2
  have q3 := h3.2.2.2
  have qe := h3.2.2.1
  have hlq : d.q.length ≤ 8796093022208 ∧ d.q.length ≤ 8796093022208 ∧ d.q.length + d.c.length ≤ 8796093022208 ∧ d.c.length ≤ 8796093022208 ∧ d.q.length + d.c.length + d.s.length ≤ 8796093022208 ∧ d.s.length ≤ 8796093022208 := by unfold KgD.n at hl; omega
  have hal := ba w (.cells #[xq, .int .i64 d.k, xc, xs] 31)
  have HX_0 := Lib.hid (vl_at w w.heap.size rfl [xq, .int .i64 d.k, xc, xs] 31)
  have HM_0 := Lib.hid (Mid.ofBelow (Q := Q) (P := P) hal)
  have Jq_0 := Lib.hid (h1.below hal)
  have Jc_0 := Lib.hid (h2.below hal)
  have Js_0 := Lib.hid (h3.below hal)
  obtain ⟨qa, qc, rfl⟩ := own_shape h1.1
  obtain ⟨ca, cc, rfl⟩ := own_shape h2.1
  obtain ⟨sa, sc, rfl⟩ := own_shape h3.1
  clear hal h1 h2 h3
  have hx0 := HX_0.out.1 0 _ rfl
  have hx1 := HX_0.out.1 1 _ rfl
  have hx2 := HX_0.out.1 2 _ rfl
  have hx3 := HX_0.out.1 3 _ rfl
  go_enter Try.func55, Try.ntmps55
  go_wp2_with fail
  refine (markI_any Jq_0.out (by omega) (by omega) (by omega)).mono ?_
  rintro e w1 ⟨rfl, ho, hm⟩
  have HX_1 := Lib.hid (HX_0.out.mid hm (.inr (by omega)))
  have Jq_1 := Lib.hid ho
  have Jc_1 := Lib.hid (Jc_0.out.mid hm (.inr (by omega)))
  have Js_1 := Lib.hid (Js_0.out.mid hm (.inr (by omega)))
  have HM_1 := Lib.hid (HM_0.out.trans (hm.wide (by omega) (by omega)))
  clear hm ho hx0 hx1 hx2 hx3
  have hx0 := HX_1.out.1 0 _ rfl
  have hx1 := HX_1.out.1 1 _ rfl
  have hx2 := HX_1.out.1 2 _ rfl
  have hx3 := HX_1.out.1 3 _ rfl
  go_wp2_with fail
  refine (markI_any Jc_1.out (by omega) (by omega) (by omega)).mono ?_
  rintro e w2 ⟨rfl, ho, hm⟩
  have HX_2 := Lib.hid (HX_1.out.mid hm (.inr (by omega)))
  have Jq_2 := Lib.hid (Jq_1.out.mid hm (.inl (by omega)))
  have Jc_2 := Lib.hid ho
  have Js_2 := Lib.hid (Js_1.out.mid hm (.inr (by omega)))
  have HM_2 := Lib.hid (HM_1.out.trans (hm.wide (by omega) (by omega)))
  clear hm ho hx0 hx1 hx2 hx3
  have hx0 := HX_2.out.1 0 _ rfl
  have hx1 := HX_2.out.1 1 _ rfl
  have hx2 := HX_2.out.1 2 _ rfl
  have hx3 := HX_2.out.1 3 _ rfl
  go_wp2_with fail
  refine (markI_any Js_2.out (by omega) (by omega) (by omega)).mono ?_
  rintro e w3 ⟨rfl, ho, hm⟩
  have HX_3 := Lib.hid (HX_2.out.mid hm (.inr (by omega)))
  have Jq_3 := Lib.hid (Jq_2.out.mid hm (.inl (by omega)))
  have Jc_3 := Lib.hid (Jc_2.out.mid hm (.inl (by omega)))
  have Js_3 := Lib.hid ho
  have HM_3 := Lib.hid (HM_2.out.trans (hm.wide (by omega) (by omega)))
  clear hm ho hx0 hx1 hx2 hx3
  have hx0 := HX_3.out.1 0 _ rfl
  have hx1 := HX_3.out.1 1 _ rfl
  have hx2 := HX_3.out.1 2 _ rfl
  have hx3 := HX_3.out.1 3 _ rfl
  go_wp2
  go_ret
  refine ⟨ret_int (by unfold KgD.n; omega), ?_, HM_3.out⟩
  exact ⟨_, _, _, M1, M2, rfl, Jq_3.out, Jc_3.out, Js_3.out⟩

set_option maxRecDepth 100000 in
set_option maxHeartbeats 3200000 in
theorem heldK_any {P : Nat} {w : World} {v : Value} {d : KgD} {k : Int} (h : InK P w v (mkK k d)) (hk0 : 0 ≤ k) (hk1 : k ≤ 8796093022208) (hl : d.n ≤ 8796093022208) :
    Calls Try.prog 56 #[v, .int .i64 k] w fun e w' => e = .returned (.int .i64 (k + (d.n : Int))) ∧ Below w.heap.size w w' := by
  obtain ⟨xq, xc, xs, rfl, h1, h2, h3⟩ := h
  have hlq : d.q.length ≤ 8796093022208 ∧ d.q.length ≤ 8796093022208 ∧ d.q.length + d.c.length ≤ 8796093022208 ∧ d.c.length ≤ 8796093022208 ∧ d.q.length + d.c.length + d.s.length ≤ 8796093022208 ∧ d.s.length ≤ 8796093022208 := by unfold KgD.n at hl; omega
  have hal := ba w (.cells #[xq, .int .i64 d.k, xc, xs] 31)
  have HX_0 := Lib.hid (vl_at w w.heap.size rfl [xq, .int .i64 d.k, xc, xs] 31)
  have HB := Lib.hid hal
  have Jq_0 := Lib.hid (h1.below hal)
  have Jc_0 := Lib.hid (h2.below hal)
  have Js_0 := Lib.hid (h3.below hal)
  obtain ⟨qa, qc, rfl⟩ := h1.shape
  obtain ⟨ca, cc, rfl⟩ := h2.shape
  obtain ⟨sa, sc, rfl⟩ := h3.shape
  clear hal h1 h2 h3
  have hx0 := HX_0.out.1 0 _ rfl
  have hx1 := HX_0.out.1 1 _ rfl
  have hx2 := HX_0.out.1 2 _ rfl
  have hx3 := HX_0.out.1 3 _ rfl
  have HN := Lib.hid (show (d.n : Int) = d.q.length + d.c.length + d.s.length by unfold KgD.n; omega)
  go_enter Try.func56, Try.ntmps56
  go_wp2_with fail
  refine (heldI_any Jq_0.out (by omega) (by omega) (by omega)).mono ?_
  rintro e w' ⟨rfl, rfl⟩
  go_wp2_with fail
  refine (heldI_any Jc_0.out (by omega) (by omega) (by omega)).mono ?_
  rintro e w' ⟨rfl, rfl⟩
  go_wp2_with fail
  refine (heldI_any Js_0.out (by omega) (by omega) (by omega)).mono ?_
  rintro e w' ⟨rfl, rfl⟩
  go_wp2
  go_ret
  exact ⟨ret_int (by have := HN.out; omega), HB.out⟩

set_option maxRecDepth 100000 in
set_option maxHeartbeats 3200000 in
theorem szK_any {P : Nat} {w : World} {v : Value} {d : KgD} {left : Int} (h : InK P w v d) (h0 : 0 ≤ left) (hlf : left ≤ 1048576) (ml1 : d.q.length ≤ maxLen) (ml2 : d.c.length ≤ maxLen) (ml3 : d.s.length ≤ maxLen) :
    Calls Try.prog 57 #[v, .int .i64 left] w fun e w' => e = .returned (.int .i64 (szV d.n left)) ∧ Below w.heap.size w w' := by
  obtain ⟨xq, xc, xs, rfl, h1, h2, h3⟩ := h
  have hal := ba w (.cells #[xq, .int .i64 d.k, xc, xs] 78)
  have HX_0 := Lib.hid (vl_at w w.heap.size rfl [xq, .int .i64 d.k, xc, xs] 78)
  have HB := Lib.hid hal
  have Jq_0 := Lib.hid (h1.below hal)
  have Jc_0 := Lib.hid (h2.below hal)
  have Js_0 := Lib.hid (h3.below hal)
  obtain ⟨qa, qc, rfl⟩ := h1.shape
  obtain ⟨ca, cc, rfl⟩ := h2.shape
  obtain ⟨sa, sc, rfl⟩ := h3.shape
  clear hal h1 h2 h3
  have hx0 := HX_0.out.1 0 _ rfl
  have hx1 := HX_0.out.1 1 _ rfl
  have hx2 := HX_0.out.1 2 _ rfl
  have hx3 := HX_0.out.1 3 _ rfl
  by_cases q0 : ¬ (d.q.length : Int) ≤ left
  · have E0 := Lib.hid (show szV d.q.length (left) = -1 by unfold szV; rw [if_neg q0])
    have e4 : szV d.n left = -1 := by unfold szV KgD.n; rw [if_neg (by omega)]
    rw [e4]
    clear e4
    go_enter Try.func57, Try.ntmps57
    go_wp2_with fail
    refine (szI_any Jq_0.out (by omega) (by omega) ml1).mono ?_
    rw [E0.out]
    rintro e w' ⟨rfl, rfl⟩
    go_wp2
    go_ret
    exact ⟨rfl, HB.out⟩
  replace q0 := Decidable.not_not.1 q0
  have E0 := Lib.hid (show szV d.q.length (left) = left - d.q.length by unfold szV; rw [if_pos q0])
  by_cases q1 : ¬ (d.c.length : Int) ≤ left - d.q.length
  · have E1 := Lib.hid (show szV d.c.length (left - d.q.length) = -1 by unfold szV; rw [if_neg q1])
    have e4 : szV d.n left = -1 := by unfold szV KgD.n; rw [if_neg (by omega)]
    rw [e4]
    clear e4
    go_enter Try.func57, Try.ntmps57
    go_wp2_with fail
    refine (szI_any Jq_0.out (by omega) (by omega) ml1).mono ?_
    rw [E0.out]
    rintro e w' ⟨rfl, rfl⟩
    go_wp2_with fail
    refine (szI_any Jc_0.out (by omega) (by omega) ml2).mono ?_
    rw [E1.out]
    rintro e w' ⟨rfl, rfl⟩
    go_wp2
    go_ret
    exact ⟨rfl, HB.out⟩
  replace q1 := Decidable.not_not.1 q1
  have E1 := Lib.hid (show szV d.c.length (left - d.q.length) = left - d.q.length - d.c.length by unfold szV; rw [if_pos q1])
  by_cases q2 : ¬ (d.s.length : Int) ≤ left - d.q.length - d.c.length
  · have E2 := Lib.hid (show szV d.s.length (left - d.q.length - d.c.length) = -1 by unfold szV; rw [if_neg q2])
    have e4 : szV d.n left = -1 := by unfold szV KgD.n; rw [if_neg (by omega)]
    rw [e4]
    clear e4
    go_enter Try.func57, Try.ntmps57
    go_wp2_with fail
    refine (szI_any Jq_0.out (by omega) (by omega) ml1).mono ?_
    rw [E0.out]
    rintro e w' ⟨rfl, rfl⟩
    go_wp2_with fail
    refine (szI_any Jc_0.out (by omega) (by omega) ml2).mono ?_
    rw [E1.out]
    rintro e w' ⟨rfl, rfl⟩
    go_wp2_with fail
    refine (szI_any Js_0.out (by omega) (by omega) ml3).mono ?_
    rw [E2.out]
    rintro e w' ⟨rfl, rfl⟩
    go_wp2
    go_ret
    exact ⟨rfl, HB.out⟩
  replace q2 := Decidable.not_not.1 q2
  have E2 := Lib.hid (show szV d.s.length (left - d.q.length - d.c.length) = left - d.q.length - d.c.length - d.s.length by unfold szV; rw [if_pos q2])
  have e4 : szV d.n left = left - d.q.length - d.c.length - d.s.length := by unfold szV KgD.n; rw [if_pos (by omega)]; omega
  rw [e4]
  clear e4
  go_enter Try.func57, Try.ntmps57
  go_wp2_with fail
  refine (szI_any Jq_0.out (by omega) (by omega) ml1).mono ?_
  rw [E0.out]
  rintro e w' ⟨rfl, rfl⟩
  go_wp2_with fail
  refine (szI_any Jc_0.out (by omega) (by omega) ml2).mono ?_
  rw [E1.out]
  rintro e w' ⟨rfl, rfl⟩
  go_wp2_with fail
  refine (szI_any Js_0.out (by omega) (by omega) ml3).mono ?_
  rw [E2.out]
  rintro e w' ⟨rfl, rfl⟩
  go_wp2
  go_ret
  exact ⟨rfl, HB.out⟩

set_option maxRecDepth 100000 in
theorem inK_open {T : Type} {enc : TypeId × Value → T} {W : World} {held : Bool} {b0 : Nat} {v : Value} {d : DataW T} {p : List MemPlace}
    (hv : Value.okWide Try.prog W .any b0 78 v) (h : DataW.Trod enc Try.prog W 0 (fun _ => true) held 78 v d p) :
    ∃ D : KgD, InK W.heap.size W v D ∧ D.q.length ≤ maxLen ∧ D.c.length ≤ maxLen ∧ D.s.length ≤ maxLen ∧ (Lit.int .i64 D.k).wf = true := by
  obtain ⟨v0, v1, v2, v3, y0, y1, y2, y3, m, rfl, _, _, g0, g1, g2, g3⟩ := open_agg4 Try.underlying78 (by kernel_rfl) (by kernel_rfl) hv h
  obtain ⟨z0, k0, l0⟩ := inI_opn' g0
  obtain ⟨z1, e1, _, f1⟩ := DataW.trod_int Try.underlying3 g1
  obtain rfl := (List.cons.inj e1).1
  obtain ⟨z2, k2, l2⟩ := inI_opn' g2
  obtain ⟨z3, k3, l3⟩ := inI_opn' g3
  exact ⟨⟨z0, z1, z2, z3⟩, ⟨_, _, _, rfl, k0, k2, k3⟩, l0, l2, l3, f1⟩

end Go.Proofs.Ytchlnkdlnfjijaa

