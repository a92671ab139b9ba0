/- Proofs: three lists of integers; what the laws' helpers do with them. -/
import Derived.Test.YtmiohdibbpckaaaTyI
namespace Go.Proofs.Ytmiohdibbpckaaa
open Go.RowKit

/-- Three values lie in block b, which may be written. -/
def B3 (w : World) (b : Nat) (x y z : Value) : Prop := w.cell? ⟨b, 0, none⟩ = some x ∧ w.cell? ⟨b, 1, none⟩ = some y ∧ w.cell? ⟨b, 2, none⟩ = some z ∧ ∀ i, w.frozen? ⟨b, i, none⟩ = false
theorem b3_new (w : World) (x y z : Value) (t : TypeId) : B3 (w.alloc (.cells #[x, y, z] t)) w.heap.size x y z := by
  refine ⟨?_, ?_, ?_, fun _ => World.frozen?_alloc_at _ _ _ _ rfl⟩ <;> (rw [World.cell?_alloc_at _ _ _ _ rfl]; rfl)
theorem B3.lt {w : World} {b : Nat} {x y z : Value} (h : B3 w b x y z) : b < w.heap.size := World.block_lt_of_cell? w _ h.1
theorem B3.below {w w' : World} {b : Nat} {x y z : Value} (h : B3 w b x y z) (hb : Below w.heap.size w w') : B3 w' b x y z := by
  have hl := h.lt
  refine ⟨?_, ?_, ?_, fun i => ?_⟩
  · rw [hb.cell (p := ⟨b, 0, none⟩) hl]; exact h.1
  · rw [hb.cell (p := ⟨b, 1, none⟩) hl]; exact h.2.1
  · rw [hb.cell (p := ⟨b, 2, none⟩) hl]; exact h.2.2.1
  · rw [hb.frozen (p := ⟨b, i, none⟩) hl]; exact h.2.2.2 i
theorem B3.belowB {w w' : World} {b B : Nat} {x y z : Value} (h : B3 w b x y z) (hb : Below B w w') (hl : b < B) : B3 w' b x y z := by
  refine ⟨?_, ?_, ?_, fun i => ?_⟩
  · rw [hb.cell (p := ⟨b, 0, none⟩) hl]; exact h.1
  · rw [hb.cell (p := ⟨b, 1, none⟩) hl]; exact h.2.1
  · rw [hb.cell (p := ⟨b, 2, none⟩) hl]; exact h.2.2.1
  · rw [hb.frozen (p := ⟨b, i, none⟩) hl]; exact h.2.2.2 i
theorem B3.mid {w w' : World} {b Q P : Nat} {x y z : Value} (h : B3 w b x y z) (hm : Mid Q P w w') (ho : b < Q ∨ P ≤ b) : B3 w' b x y z := by
  have hl := h.lt
  have he := hm.block b hl ho
  refine ⟨?_, ?_, ?_, fun i => ?_⟩
  · rw [World.cell?_of_block (a := ⟨b, 0, none⟩) he]; exact h.1
  · rw [World.cell?_of_block (a := ⟨b, 1, none⟩) he]; exact h.2.1
  · rw [World.cell?_of_block (a := ⟨b, 2, none⟩) he]; exact h.2.2.1
  · rw [World.frozen?_of_block (a := ⟨b, i, none⟩) he]; exact h.2.2.2 i
theorem B3.other {w : World} {b : Nat} {x y z : Value} (h : B3 w b x y z) (a : Addr) (v : Value) (hne : a.block ≠ b) : B3 (w.setCell a v) b x y z := by
  obtain ⟨c0, c1, c2, hf⟩ := h
  refine ⟨?_, ?_, ?_, fun i => by rw [World.frozen?_setCell]; exact hf i⟩
  · rw [World.cell?_setCell_other _ _ _ _ (fun e => hne (by rw [e]))]; exact c0
  · rw [World.cell?_setCell_other _ _ _ _ (fun e => hne (by rw [e]))]; exact c1
  · rw [World.cell?_setCell_other _ _ _ _ (fun e => hne (by rw [e]))]; exact c2
theorem B3.set0 {w : World} {b : Nat} {x y z : Value} (h : B3 w b x y z) (v : Value) : B3 (w.setCell ⟨b, 0, none⟩ v) b v y z := by
  obtain ⟨c0, c1, c2, hf⟩ := h
  refine ⟨World.cell?_setCell_same _ _ _ c0, ?_, ?_, fun i => by rw [World.frozen?_setCell]; exact hf i⟩
  · rw [World.cell?_setCell_other _ _ _ _ (by simp)]; exact c1
  · rw [World.cell?_setCell_other _ _ _ _ (by simp)]; exact c2
theorem B3.set1 {w : World} {b : Nat} {x y z : Value} (h : B3 w b x y z) (v : Value) : B3 (w.setCell ⟨b, 1, none⟩ v) b x v z := by
  obtain ⟨c0, c1, c2, hf⟩ := h
  refine ⟨?_, World.cell?_setCell_same _ _ _ c1, ?_, fun i => by rw [World.frozen?_setCell]; exact hf i⟩
  · rw [World.cell?_setCell_other _ _ _ _ (by simp)]; exact c0
  · rw [World.cell?_setCell_other _ _ _ _ (by simp)]; exact c2
theorem B3.set2 {w : World} {b : Nat} {x y z : Value} (h : B3 w b x y z) (v : Value) : B3 (w.setCell ⟨b, 2, none⟩ v) b x y v := by
  obtain ⟨c0, c1, c2, hf⟩ := h
  refine ⟨?_, ?_, World.cell?_setCell_same _ _ _ c2, fun i => by rw [World.frozen?_setCell]; exact hf i⟩
  · rw [World.cell?_setCell_other _ _ _ _ (by simp)]; exact c0
  · rw [World.cell?_setCell_other _ _ _ _ (by simp)]; exact c1

/-- The data of a proof. -/
structure PrD where
  c : List Int
  h : List Int
  r : List Int
def PrD.n (p : PrD) : Nat := p.c.length + p.h.length + p.r.length
def mkP (k : Int) (p : PrD) : PrD := ⟨mkI k p.c, mkI (k + p.c.length) p.h, mkI (k + p.c.length + p.h.length) p.r⟩

def InP (P : Nat) (w : World) (v : Value) (p : PrD) : Prop := ∃ a b c, v = .agg #[a, b, c] ∧ InI P w a p.c ∧ InI P w b p.h ∧ InI P w c p.r
def OwP (Q P : Nat) (w : World) (v : Value) (p : PrD) : Prop := ∃ a b c M N, v = .agg #[a, b, c] ∧ OwI Q M w a p.c ∧ OwI M N w b p.h ∧ OwI N P w c p.r
theorem InP.below {P : Nat} {w w' : World} {v : Value} {p : PrD} (h : InP P w v p) (hb : Below w.heap.size w w') : InP P w' v p := by
  obtain ⟨a, b, c, rfl, h1, h2, h3⟩ := h
  exact ⟨a, b, c, rfl, h1.below hb, h2.below hb, h3.below hb⟩
theorem InP.mid {P A B : Nat} {w w' : World} {v : Value} {p : PrD} (h : InP P w v p) (hm : Mid A B w w') (hA : P ≤ A) : InP P w' v p := by
  obtain ⟨a, b, c, rfl, h1, h2, h3⟩ := h
  exact ⟨a, b, c, rfl, h1.mid hm hA, h2.mid hm hA, h3.mid hm hA⟩
theorem OwP.below {Q P : Nat} {w w' : World} {v : Value} {p : PrD} (h : OwP Q P w v p) (hb : Below w.heap.size w w') : OwP Q P w' v p := by
  obtain ⟨a, b, c, M, N, rfl, h1, h2, h3⟩ := h
  exact ⟨a, b, c, M, N, rfl, h1.below hb, h2.below hb, h3.below hb⟩
theorem OwP.mid {Q P A B : Nat} {w w' : World} {v : Value} {p : PrD} (h : OwP Q P w v p) (hm : Mid A B w w') (ho : P ≤ A ∨ B ≤ Q) : OwP Q P w' v p := by
  obtain ⟨a, b, c, M, N, rfl, h1, h2, h3⟩ := h
  have q1 := h1.2.2.2
  have q2 := h2.2.2.2
  have q3 := h3.2.2.2
  exact ⟨a, b, c, M, N, rfl, h1.mid hm (by omega), h2.mid hm (by omega), h3.mid hm (by omega)⟩
theorem OwP.wide {Q P Q' P' : Nat} {w : World} {v : Value} {p : PrD} (h : OwP Q P w v p) (hQ : Q' ≤ Q) (hP : P ≤ P') (hs : P' ≤ w.heap.size := by exact Nat.le_refl _) : OwP Q' P' w v p := by
  obtain ⟨a, b, c, M, N, rfl, h1, h2, h3⟩ := h
  exact ⟨a, b, c, M, N, rfl, h1.wide hQ (Nat.le_refl _) h1.2.2.1, h2, h3.wide (Nat.le_refl _) hP hs⟩
theorem OwP.toIn {Q P : Nat} {w : World} {v : Value} {p : PrD} (h : OwP Q P w v p) : InP P w v p := by
  obtain ⟨a, b, c, M, N, rfl, h1, h2, h3⟩ := h
  have q2 := h2.2.2.2
  have q3 := h3.2.2.2
  have q4 := h3.2.2.1
  exact ⟨a, b, c, rfl, h1.toIn.wide (by omega) q4, h2.toIn.wide (by omega) q4, h3.toIn⟩

theorem InP.le {P : Nat} {w : World} {v : Value} {p : PrD} (h : InP P w v p) : P ≤ w.heap.size := by obtain ⟨a, b, c, rfl, h1, _⟩ := h; exact h1.1
theorem OwP.le {Q P : Nat} {w : World} {v : Value} {p : PrD} (h : OwP Q P w v p) : P ≤ w.heap.size := h.toIn.le

def MadeP (w : World) (p : PrD) (e : Ending) (w' : World) : Prop := ∃ v, e = .returned v ∧ OwP w.heap.size w'.heap.size w' v p ∧ Below w.heap.size w w'
def MarkP (Q P : Nat) (w : World) (p : PrD) (v : Value) (k : Int) (e : Ending) (w' : World) : Prop := e = .returned (.int .i64 (k + (p.n : Int))) ∧ OwP Q P w' v (mkP k p) ∧ Mid Q P w w'

set_option maxRecDepth 100000 in
set_option maxHeartbeats 1600000 in
theorem toP_any {P : Nat} {w : World} {v : Value} {p : PrD} (h : InP P w v p) (hl : p.n ≤ 17592186044416) :
    Calls Try.prog 14 #[v] w (MadeP w p) := by
  obtain ⟨a, b, c, rfl, h1, h2, h3⟩ := h
  obtain ⟨hl1, hl2, hl3⟩ : p.c.length ≤ 17592186044416 ∧ p.h.length ≤ 17592186044416 ∧ p.r.length ≤ 17592186044416 := by unfold PrD.n at hl; omega
  have hP := h1.1
  obtain ⟨a1, a2, rfl⟩ := h1.shape
  obtain ⟨b1, b2, rfl⟩ := h2.shape
  obtain ⟨c1, c2, rfl⟩ := h3.shape
  generalize ha : Value.slice a1 p.c.length a2 = a at h1
  generalize hb : Value.slice b1 p.h.length b2 = b at h2
  generalize hc : Value.slice c1 p.r.length c2 = c at h3
  have hb0 := ba w (.cells #[a, b, c] 24)
  have hb1 := bt hb0 (ba _ (.cells #[.slice none 0 0, .slice none 0 0, .slice none 0 0] 28))
  have hb2 := bt hb1 (ba _ (.cells #[.slice none 0 0, .slice none 0 0, .slice none 0 0] 28))
  have hs1 : (w.alloc (.cells #[a, b, c] 24)).heap.size = w.heap.size + 1 := by simp
  have hs2 : ((w.alloc (.cells #[a, b, c] 24)).alloc (.cells #[.slice none 0 0, .slice none 0 0, .slice none 0 0] 28)).heap.size = w.heap.size + 2 := by simp
  have hX := ((b3_new w a b c 24).below (ba _ (.cells #[.slice none 0 0, .slice none 0 0, .slice none 0 0] 28))).below (ba _ (.cells #[.slice none 0 0, .slice none 0 0, .slice none 0 0] 28))
  have hY := (b3_new (w.alloc (.cells #[a, b, c] 24)) (.slice none 0 0) (.slice none 0 0) (.slice none 0 0) 28).below (ba _ (.cells #[.slice none 0 0, .slice none 0 0, .slice none 0 0] 28))
  have hZ := b3_new ((w.alloc (.cells #[a, b, c] 24)).alloc (.cells #[.slice none 0 0, .slice none 0 0, .slice none 0 0] 28)) (.slice none 0 0) (.slice none 0 0) (.slice none 0 0) 28
  rw [hs1] at hY
  rw [hs2] at hZ
  have I1 := Lib.hid (h1.below hb2)
  have I2 := Lib.hid (h2.below hb2)
  have I3 := Lib.hid (h3.below hb2)
  have HX := Lib.hid hX
  have HY := Lib.hid hY
  have HZ := Lib.hid hZ
  have HB := Lib.hid hb2
  clear hX hY hZ hb0 hb1 hb2 hs1 hs2 h1 h2 h3
  subst ha hb hc
  go_enter Try.func14, Try.ntmps14
  go_wp2_with fail
  refine (toI_any I1.out hl1).mono ?_
  rintro e w1 ⟨v1, rfl, ho1, hb1⟩
  obtain ⟨va, vc, rfl⟩ := own_shape ho1.1
  have I21 := Lib.hid (I2.out.below hb1)
  have I31 := Lib.hid (I3.out.below hb1)
  have HX1 := Lib.hid (HX.out.below hb1)
  have HY1 := Lib.hid (HY.out.below hb1)
  have HZ1 := Lib.hid (HZ.out.below hb1)
  have HB1 := Lib.hid (bt HB.out hb1)
  have HO1 := Lib.hid (ho1.wide (Q' := w.heap.size + 3) (by simp) (Nat.le_refl _) (Nat.le_refl _))
  clear hb1 ho1
  obtain ⟨x0, x1, x2, _⟩ := HX1.out
  obtain ⟨z0, z1, z2, zf⟩ := HZ1.out
  have zf0 := zf 0
  clear zf
  go_wp2_with fail
  clear x0 x1 x2 z0 z1 z2 zf0
  have I22 := Lib.hid (I21.out.belowP ((Below.refl P w1).setCell (p := ⟨w.heap.size + 2, 0, none⟩) (Nat.le_trans hP (Nat.le_add_right _ _)) (.slice va p.c.length vc)))
  have I32 := Lib.hid (I31.out.belowP ((Below.refl P w1).setCell (p := ⟨w.heap.size + 2, 0, none⟩) (Nat.le_trans hP (Nat.le_add_right _ _)) (.slice va p.c.length vc)))
  have HX2 := Lib.hid (HX1.out.other ⟨w.heap.size + 2, 0, none⟩ (.slice va p.c.length vc) (by simp))
  have HY2 := Lib.hid (HY1.out.other ⟨w.heap.size + 2, 0, none⟩ (.slice va p.c.length vc) (by simp))
  have HZ2 := Lib.hid (HZ1.out.set0 (.slice va p.c.length vc))
  have HO2 := Lib.hid (HO1.out.mid (mid_cell w1 (w.heap.size + 2) 0 (.slice va p.c.length vc)) (.inr (Nat.le_refl _)))
  have HB2 := Lib.hid (HB1.out.setCell (p := ⟨w.heap.size + 2, 0, none⟩) (Nat.le_add_right _ _) (.slice va p.c.length vc))
  clear I21 I31 HX1 HY1 HZ1 HO1 HB1
  refine (toI_any I22.out hl2).mono ?_
  rintro e w2 ⟨v2, rfl, ho2, hb2⟩
  obtain ⟨vb, wb, rfl⟩ := own_shape ho2.1
  have I33 := Lib.hid (I32.out.below hb2)
  have HX3 := Lib.hid (HX2.out.below hb2)
  have HY3 := Lib.hid (HY2.out.below hb2)
  have HZ3 := Lib.hid (HZ2.out.below hb2)
  have HO3 := Lib.hid (HO2.out.below hb2)
  have HU3 := Lib.hid (ho2.wide (Q' := w1.heap.size) (by simp) (Nat.le_refl _) (Nat.le_refl _))
  have HB3 := Lib.hid (bt HB2.out hb2)
  clear hb2 ho2 I22 I32 HX2 HY2 HZ2 HO2 HB2
  obtain ⟨x0, x1, x2, _⟩ := HX3.out
  obtain ⟨z0, z1, z2, zf⟩ := HZ3.out
  have zf1 := zf 1
  clear zf
  go_wp2_with fail
  clear x0 x1 x2 z0 z1 z2 zf1
  have I34 := Lib.hid (I33.out.belowP ((Below.refl P w2).setCell (p := ⟨w.heap.size + 2, 1, none⟩) (Nat.le_trans hP (Nat.le_add_right _ _)) (.slice vb p.h.length wb)))
  have HX4 := Lib.hid (HX3.out.other ⟨w.heap.size + 2, 1, none⟩ (.slice vb p.h.length wb) (by simp))
  have HY4 := Lib.hid (HY3.out.other ⟨w.heap.size + 2, 1, none⟩ (.slice vb p.h.length wb) (by simp))
  have HZ4 := Lib.hid (HZ3.out.set1 (.slice vb p.h.length wb))
  have HO4 := Lib.hid (HO3.out.mid (mid_cell w2 (w.heap.size + 2) 1 (.slice vb p.h.length wb)) (.inr (Nat.le_refl _)))
  have HU4 := Lib.hid (HU3.out.mid (mid_cell w2 (w.heap.size + 2) 1 (.slice vb p.h.length wb)) (.inr HO3.out.2.2.2))
  have HB4 := Lib.hid (HB3.out.setCell (p := ⟨w.heap.size + 2, 1, none⟩) (Nat.le_add_right _ _) (.slice vb p.h.length wb))
  have HL4 := Lib.hid HO3.out.2.2.2
  clear I33 HX3 HY3 HZ3 HO3 HU3 HB3
  refine (toI_any I34.out hl3).mono ?_
  rintro e w3 ⟨v3, rfl, ho3, hb3⟩
  obtain ⟨vd, wd, rfl⟩ := own_shape ho3.1
  have HX5 := Lib.hid (HX4.out.below hb3)
  have HY5 := Lib.hid (HY4.out.below hb3)
  have HZ5 := Lib.hid (HZ4.out.below hb3)
  have HO5 := Lib.hid (HO4.out.below hb3)
  have HU5 := Lib.hid (HU4.out.below hb3)
  have HV5 := Lib.hid (ho3.wide (Q' := w2.heap.size) (by simp) (Nat.le_refl _) (Nat.le_refl _))
  have HB5 := Lib.hid (bt HB4.out hb3)
  clear hb3 ho3 I34 HX4 HY4 HZ4 HO4 HU4 HB4
  obtain ⟨y0, y1, y2, yf⟩ := HY5.out
  have yf0 := yf 0
  have yf1 := yf 1
  have yf2 := yf 2
  obtain ⟨z0, z1, z2, zf⟩ := HZ5.out
  have zf2 := zf 2
  clear zf yf
  go_wp2
  (try simp only [Exit.inBlock, Exit.then])
  refine bodyPost_ret (v := .agg #[.slice va p.c.length vc, .slice vb p.h.length wb, .slice vd p.r.length wd]) ?_ rfl ⟨_, rfl, ?_, ?_⟩
  · rw [results_cell_one rfl]; go_simp
  · have M := ((((mid_cell w3 (w.heap.size + 2) 2 (.slice vd p.r.length wd)).wide (Q' := w.heap.size + 1) (P' := w.heap.size + 3) (by omega) (by omega)).trans ((mid_cell _ (w.heap.size + 1) 0 (.slice va p.c.length vc)).wide (by omega) (by omega))).trans ((mid_cell _ (w.heap.size + 1) 1 (.slice vb p.h.length wb)).wide (by omega) (by omega))).trans ((mid_cell _ (w.heap.size + 1) 2 (.slice vd p.r.length wd)).wide (by omega) (by omega))
    have l1 := HO5.out.2.2.2
    have l2 := HU5.out.2.2.2
    have o5 := HO5.out.mid M (.inr (Nat.le_refl _))
    have u5 := HU5.out.mid M (.inr l1)
    have v5 := HV5.out.mid M (.inr (Nat.le_trans l1 l2))
    exact ⟨_, _, _, _, _, rfl, o5.wide (Nat.le_add_right _ _) (Nat.le_refl _) o5.2.2.1, u5, v5.wide (Nat.le_refl _) (by simp) (Nat.le_refl _)⟩
  · exact ((((HB5.out.setCell (show w.heap.size ≤ w.heap.size + 1 + 1 by omega) _).setCell (Nat.le_add_right _ _) _).setCell (Nat.le_add_right _ _) _).setCell (Nat.le_add_right _ _) _)

set_option maxRecDepth 100000 in
set_option maxHeartbeats 1600000 in
theorem eqP_any {P P' : Nat} {w : World} {v v' : Value} {p : PrD} (h : InP P w v p) (h' : InP P' w v' p) (hl : p.n ≤ 17592186044416) :
    Calls Try.prog 17 #[v, v'] w fun e w' => e = .returned (.bool true) ∧ Below w.heap.size w w' := by
  obtain ⟨a, b, c, rfl, h1, h2, h3⟩ := h
  obtain ⟨a', b', c', rfl, h1', h2', h3'⟩ := h'
  obtain ⟨hl1, hl2, hl3⟩ : p.c.length ≤ 17592186044416 ∧ p.h.length ≤ 17592186044416 ∧ p.r.length ≤ 17592186044416 := by unfold PrD.n at hl; omega
  have hb1 := ba w (.cells #[a, b, c] 28)
  have hb2 := bt hb1 (ba _ (.cells #[a', b', c'] 28))
  have hs1 : (w.alloc (.cells #[a, b, c] 28)).heap.size = w.heap.size + 1 := by simp
  have hX := (b3_new w a b c 28).below (ba _ (.cells #[a', b', c'] 28))
  have hY := b3_new (w.alloc (.cells #[a, b, c] 28)) a' b' c' 28
  rw [hs1] at hY
  have J1 := Lib.hid (h1.below hb2)
  have J2 := Lib.hid (h2.below hb2)
  have J3 := Lib.hid (h3.below hb2)
  have K1 := Lib.hid (h1'.below hb2)
  have K2 := Lib.hid (h2'.below hb2)
  have K3 := Lib.hid (h3'.below hb2)
  obtain ⟨a1, a2, rfl⟩ := h1.shape
  obtain ⟨b1, b2, rfl⟩ := h2.shape
  obtain ⟨c1, c2, rfl⟩ := h3.shape
  obtain ⟨a3, a4, rfl⟩ := h1'.shape
  obtain ⟨b3, b4, rfl⟩ := h2'.shape
  obtain ⟨c3, c4, rfl⟩ := h3'.shape
  have HX := Lib.hid hX
  have HY := Lib.hid hY
  have HB := Lib.hid hb2
  clear hX hY hb1 hb2 hs1 h1 h2 h3 h1' h2' h3'
  obtain ⟨x0, _, _, _⟩ := HX.out
  obtain ⟨y0, _, _, _⟩ := HY.out
  go_enter Try.func17, Try.ntmps17
  go_wp2_with fail
  refine (eqI_any J1.out K1.out hl1).mono ?_
  rintro e w1 ⟨rfl, hb1⟩
  have J21 := Lib.hid (J2.out.below hb1)
  have J31 := Lib.hid (J3.out.below hb1)
  have K21 := Lib.hid (K2.out.below hb1)
  have K31 := Lib.hid (K3.out.below hb1)
  have HX1 := Lib.hid (HX.out.below hb1)
  have HY1 := Lib.hid (HY.out.below hb1)
  have HB1 := Lib.hid (bt HB.out hb1)
  clear hb1 x0 y0
  obtain ⟨_, x1, _, _⟩ := HX1.out
  obtain ⟨_, y1, _, _⟩ := HY1.out
  go_wp2_with fail
  refine (eqI_any J21.out K21.out hl2).mono ?_
  rintro e w2 ⟨rfl, hb2⟩
  have J32 := Lib.hid (J31.out.below hb2)
  have K32 := Lib.hid (K31.out.below hb2)
  have HX2 := Lib.hid (HX1.out.below hb2)
  have HY2 := Lib.hid (HY1.out.below hb2)
  have HB2 := Lib.hid (bt HB1.out hb2)
  clear hb2 x1 y1
  obtain ⟨_, _, x2, _⟩ := HX2.out
  obtain ⟨_, _, y2, _⟩ := HY2.out
  go_wp2_with fail
  refine (eqI_any J32.out K32.out hl3).mono ?_
  rintro e w3 ⟨rfl, hb3⟩
  have HB3 := Lib.hid (bt HB2.out hb3)
  clear hb3 x2 y2
  go_wp2
  go_ret
  exact ⟨rfl, HB3.out⟩

set_option maxRecDepth 100000 in
set_option maxHeartbeats 1600000 in
theorem markP_any {Q P : Nat} {w : World} {v : Value} {p : PrD} {k : Int} (h : OwP Q P w v p) (hk0 : 0 ≤ k) (hk1 : k ≤ 8796093022208) (hl : p.n ≤ 8796093022208) :
    Calls Try.prog 18 #[v, .int .i64 k] w (MarkP Q P w p v k) := by
  obtain ⟨a, b, c, M, N, rfl, h1, h2, h3⟩ := h
  have q1 := h1.2.2.2
  have q2 := h2.2.2.2
  have q3 := h3.2.2.2
  have q4 := h3.2.2.1
  obtain ⟨hl1, hl2, hl3, hl4⟩ : p.c.length ≤ 8796093022208 ∧ p.h.length ≤ 8796093022208 ∧ p.r.length ≤ 8796093022208 ∧ p.c.length + p.h.length ≤ 8796093022208 := by unfold PrD.n at hl; omega
  have hal := ba w (.cells #[a, b, c] 28)
  have HX := Lib.hid (b3_new w a b c 28)
  have HM := Lib.hid (Mid.ofBelow (Q := Q) (P := P) hal)
  have J1 := Lib.hid (h1.below hal)
  have J2 := Lib.hid (h2.below hal)
  have J3 := Lib.hid (h3.below hal)
  obtain ⟨a1, a2, rfl⟩ := own_shape h1.1
  obtain ⟨b1, b2, rfl⟩ := own_shape h2.1
  obtain ⟨c1, c2, rfl⟩ := own_shape h3.1
  clear hal h1 h2 h3
  obtain ⟨x0, _, _, _⟩ := HX.out
  go_enter Try.func18, Try.ntmps18
  go_wp2_with fail
  refine (markI_any J1.out hk0 (by omega) (by omega)).mono ?_
  rintro e w1 ⟨rfl, ho1, hm1⟩
  have HX1 := Lib.hid (HX.out.mid hm1 (.inr (by omega)))
  have O1 := Lib.hid ho1
  have J21 := Lib.hid (J2.out.mid hm1 (.inr (Nat.le_refl _)))
  have J31 := Lib.hid (J3.out.mid hm1 (.inr q2))
  have HM1 := Lib.hid (HM.out.trans (hm1.wide (Nat.le_refl _) (Nat.le_trans q2 q3)))
  clear hm1 ho1 x0
  obtain ⟨_, x1, _, _⟩ := HX1.out
  go_wp2_with fail
  refine (markI_any J21.out (by omega) (by omega) (by omega)).mono ?_
  rintro e w2 ⟨rfl, ho2, hm2⟩
  have HX2 := Lib.hid (HX1.out.mid hm2 (.inr (by omega)))
  have O2 := Lib.hid (And.intro (O1.out.mid hm2 (.inl (Nat.le_refl _))) ho2)
  have J32 := Lib.hid (J31.out.mid hm2 (.inr (Nat.le_refl _)))
  have HM2 := Lib.hid (HM1.out.trans (hm2.wide q1 q3))
  clear hm2 ho2 x1
  obtain ⟨_, _, x2, _⟩ := HX2.out
  go_wp2_with fail
  refine (markI_any J32.out (by omega) (by omega) (by omega)).mono ?_
  rintro e w3 ⟨rfl, ho3, hm3⟩
  have O3 := Lib.hid (And.intro (O2.out.1.mid hm3 (.inl q2)) (And.intro (O2.out.2.mid hm3 (.inl (Nat.le_refl _))) ho3))
  have HM3 := Lib.hid (HM2.out.trans (hm3.wide (Nat.le_trans q1 q2) (Nat.le_refl _)))
  clear hm3 ho3 x2
  go_wp2
  go_ret
  refine ⟨?_, ?_, HM3.out⟩
  · exact ret_int (by unfold PrD.n; omega)
  · exact ⟨_, _, _, M, N, rfl, O3.out.1, O3.out.2.1, O3.out.2.2⟩

set_option maxRecDepth 100000 in
set_option maxHeartbeats 1600000 in
theorem heldP_any {P : Nat} {w : World} {v : Value} {p : PrD} {k : Int} (h : InP P w v (mkP k p)) (hk0 : 0 ≤ k) (hk1 : k ≤ 8796093022208) (hl : p.n ≤ 8796093022208) :
    Calls Try.prog 24 #[v, .int .i64 k] w fun e w' => e = .returned (.int .i64 (k + (p.n : Int))) ∧ Below w.heap.size w w' := by
  obtain ⟨a, b, c, rfl, h1, h2, h3⟩ := h
  obtain ⟨hl1, hl2, hl3, hl4⟩ : p.c.length ≤ 8796093022208 ∧ p.h.length ≤ 8796093022208 ∧ p.r.length ≤ 8796093022208 ∧ p.c.length + p.h.length ≤ 8796093022208 := by unfold PrD.n at hl; omega
  have hal := ba w (.cells #[a, b, c] 28)
  have HX := Lib.hid (b3_new w a b c 28)
  have J1 := Lib.hid (h1.below hal)
  have J2 := Lib.hid (h2.below hal)
  have J3 := Lib.hid (h3.below hal)
  have HB := Lib.hid hal
  obtain ⟨a1, a2, rfl⟩ := h1.shape
  obtain ⟨b1, b2, rfl⟩ := h2.shape
  obtain ⟨c1, c2, rfl⟩ := h3.shape
  clear hal h1 h2 h3
  obtain ⟨x0, x1, x2, _⟩ := HX.out
  have en : (p.n : Int) = p.c.length + p.h.length + p.r.length := by unfold PrD.n; omega
  have HN := Lib.hid en
  clear en
  go_enter Try.func24, Try.ntmps24
  go_wp2_with fail
  refine (heldI_any J1.out hk0 (by omega) (by omega)).mono ?_
  rintro e w' ⟨rfl, rfl⟩
  go_wp2_with fail
  refine (heldI_any J2.out (by omega) (by omega) (by omega)).mono ?_
  rintro e w' ⟨rfl, rfl⟩
  go_wp2_with fail
  refine (heldI_any J3.out (by omega) (by omega) (by omega)).mono ?_
  rintro e w' ⟨rfl, rfl⟩
  go_wp2
  go_ret
  exact ⟨ret_int (by have := HN.out; omega), HB.out⟩

set_option maxRecDepth 100000 in
set_option maxHeartbeats 1600000 in
theorem szP_any {P : Nat} {w : World} {v : Value} {p : PrD} {left : Int} (h : InP P w v p) (h0 : 0 ≤ left) (h1 : left ≤ 1048576) (hl1 : p.c.length ≤ maxLen) (hl2 : p.h.length ≤ maxLen) (hl3 : p.r.length ≤ maxLen) :
    Calls Try.prog 12 #[v, .int .i64 left] w fun e w' => e = .returned (.int .i64 (szV p.n left)) ∧ Below w.heap.size w w' := by
  obtain ⟨a, b, c, rfl, j1, j2, j3⟩ := h
  have hal := ba w (.cells #[a, b, c] 24)
  have HX := Lib.hid (b3_new w a b c 24)
  have J1 := Lib.hid (j1.below hal)
  have J2 := Lib.hid (j2.below hal)
  have J3 := Lib.hid (j3.below hal)
  have HB := Lib.hid hal
  obtain ⟨a1, a2, rfl⟩ := j1.shape
  obtain ⟨b1, b2, rfl⟩ := j2.shape
  obtain ⟨c1, c2, rfl⟩ := j3.shape
  clear hal j1 j2 j3
  obtain ⟨x0, x1, x2, _⟩ := HX.out
  by_cases q1 : (p.c.length : Int) ≤ left
  · have e1 : szV p.c.length left = left - p.c.length := by simp [szV, q1]
    by_cases q2 : (p.h.length : Int) ≤ left - p.c.length
    · have e2 : szV p.h.length (left - p.c.length) = left - p.c.length - p.h.length := by simp [szV, q2]
      by_cases q3 : (p.r.length : Int) ≤ left - p.c.length - p.h.length
      · have e3 : szV p.r.length (left - p.c.length - p.h.length) = left - p.c.length - p.h.length - p.r.length := by simp [szV, q3]
        have e4 : szV p.n left = left - p.c.length - p.h.length - p.r.length := by
          unfold szV PrD.n; rw [if_pos (by omega)]; omega
        rw [e4]
        have E1 := Lib.hid e1
        have E2 := Lib.hid e2
        have E3 := Lib.hid e3
        clear e1 e2 e3 e4
        go_enter Try.func12, Try.ntmps12
        go_wp2_with fail
        refine (szI_any J1.out h0 h1 hl1).mono ?_
        rw [E1.out]
        rintro e w' ⟨rfl, rfl⟩
        go_wp2_with fail
        refine (szI_any J2.out (by omega) (by omega) hl2).mono ?_
        rw [E2.out]
        rintro e w' ⟨rfl, rfl⟩
        go_wp2_with fail
        refine (szI_any J3.out (by omega) (by omega) hl3).mono ?_
        rw [E3.out]
        rintro e w' ⟨rfl, rfl⟩
        go_wp2
        go_ret
        exact ⟨rfl, HB.out⟩
      · have e3 : szV p.r.length (left - p.c.length - p.h.length) = -1 := by simp [szV, q3]
        have e4 : szV p.n left = -1 := by unfold szV PrD.n; rw [if_neg (by omega)]
        rw [e4]
        have E1 := Lib.hid e1
        have E2 := Lib.hid e2
        have E3 := Lib.hid e3
        clear e1 e2 e3 e4
        go_enter Try.func12, Try.ntmps12
        go_wp2_with fail
        refine (szI_any J1.out h0 h1 hl1).mono ?_
        rw [E1.out]
        rintro e w' ⟨rfl, rfl⟩
        go_wp2_with fail
        refine (szI_any J2.out (by omega) (by omega) hl2).mono ?_
        rw [E2.out]
        rintro e w' ⟨rfl, rfl⟩
        go_wp2_with fail
        refine (szI_any J3.out (by omega) (by omega) hl3).mono ?_
        rw [E3.out]
        rintro e w' ⟨rfl, rfl⟩
        go_wp2
        go_ret
        exact ⟨rfl, HB.out⟩
    · have e2 : szV p.h.length (left - p.c.length) = -1 := by simp [szV, q2]
      have e4 : szV p.n left = -1 := by unfold szV PrD.n; rw [if_neg (by omega)]
      rw [e4]
      have E1 := Lib.hid e1
      have E2 := Lib.hid e2
      clear e1 e2 e4
      go_enter Try.func12, Try.ntmps12
      go_wp2_with fail
      refine (szI_any J1.out h0 h1 hl1).mono ?_
      rw [E1.out]
      rintro e w' ⟨rfl, rfl⟩
      go_wp2_with fail
      refine (szI_any J2.out (by omega) (by omega) hl2).mono ?_
      rw [E2.out]
      rintro e w' ⟨rfl, rfl⟩
      go_wp2
      go_ret
      exact ⟨rfl, HB.out⟩
  · have e1 : szV p.c.length left = -1 := by simp [szV, q1]
    have e4 : szV p.n left = -1 := by unfold szV PrD.n; rw [if_neg (by omega)]
    rw [e4]
    have E1 := Lib.hid e1
    clear e1 e4
    go_enter Try.func12, Try.ntmps12
    go_wp2_with fail
    refine (szI_any J1.out h0 h1 hl1).mono ?_
    rw [E1.out]
    rintro e w' ⟨rfl, rfl⟩
    go_wp2
    go_ret
    exact ⟨rfl, HB.out⟩

end Go.Proofs.Ytmiohdibbpckaaa

