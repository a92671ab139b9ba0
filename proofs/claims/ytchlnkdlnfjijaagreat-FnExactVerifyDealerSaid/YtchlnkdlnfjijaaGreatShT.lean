/- How the laws copy, compare, measure, mark and hold a dealing; dealings that come into a law. -/
import Derived.Test.YtchlnkdlnfjijaaGreatTyI
import Derived.Deep.Slices
import Derived.OpenShut
import Derived.Lib.SmallJoins
namespace Go.Proofs.YtchlnkdlnfjijaaGreat
open Go.RowKit Go.ChangeShapes Go.WideShapes Go.ChangeAt Go.Joins Go.Deep
set_option linter.unusedVariables false
set_option linter.unusedSimpArgs false

/-! ### Two values in a block that may be written -/
def VD2 (w : World) (b : Nat) (x y : Value) : Prop := w.cell? ⟨b, 0, none⟩ = some x ∧ w.cell? ⟨b, 1, none⟩ = some y ∧ ∀ i, w.frozen? ⟨b, i, none⟩ = false
theorem v2_at (w : World) (b : Nat) (hb : w.heap.size = b) (x y : Value) (t : TypeId) : VD2 (w.alloc (.cells #[x, y] t)) b x y := by
  subst hb
  refine ⟨?_, ?_, fun _ => World.frozen?_alloc_at _ _ _ _ rfl⟩ <;> (rw [World.cell?_alloc_at _ _ _ _ rfl]; rfl)
theorem VD2.lt {w : World} {b : Nat} {x y : Value} (h : VD2 w b x y) : b < w.heap.size := World.block_lt_of_cell? w _ h.1
theorem VD2.below {w w' : World} {b : Nat} {x y : Value} (h : VD2 w b x y) (hb : Below w.heap.size w w') : VD2 w' b x y := by
  have hl := h.lt
  refine ⟨?_, ?_, fun i => ?_⟩
  · rw [hb.cell (p := ⟨b, 0, none⟩) hl]; exact h.1
  · rw [hb.cell (p := ⟨b, 1, none⟩) hl]; exact h.2.1
  · rw [hb.frozen (p := ⟨b, i, none⟩) hl]; exact h.2.2 i
theorem VD2.mid {w w' : World} {b Q P : Nat} {x y : Value} (h : VD2 w b x y) (hm : Mid Q P w w') (ho : b < Q ∨ P ≤ b) : VD2 w' b x y := by
  have hl := h.lt
  have he := hm.block b hl ho
  refine ⟨?_, ?_, fun i => ?_⟩
  · rw [World.cell?_of_block (a := ⟨b, 0, none⟩) he]; exact h.1
  · rw [World.cell?_of_block (a := ⟨b, 1, none⟩) he]; exact h.2.1
  · have := h.2.2 i
    unfold World.frozen? at this ⊢
    simp only [he]
    exact this
theorem VD2.other {w : World} {b : Nat} {x y : Value} (h : VD2 w b x y) (a : Addr) (v : Value) (hne : a.block ≠ b) : VD2 (w.setCell a v) b x y := by
  refine ⟨?_, ?_, fun i => by rw [World.frozen?_setCell]; exact h.2.2 i⟩
  · rw [World.cell?_setCell_other _ _ _ _ (by intro e; exact hne (by rw [e]))]; exact h.1
  · rw [World.cell?_setCell_other _ _ _ _ (by intro e; exact hne (by rw [e]))]; exact h.2.1
theorem VD2.set0 {w : World} {b : Nat} {x y : Value} (h : VD2 w b x y) (v : Value) : VD2 (w.setCell ⟨b, 0, none⟩ v) b v y := by
  refine ⟨World.cell?_setCell_same _ _ _ h.1, ?_, fun i => by rw [World.frozen?_setCell]; exact h.2.2 i⟩
  rw [World.cell?_setCell_other _ _ _ _ (by simp)]; exact h.2.1
theorem VD2.set1 {w : World} {b : Nat} {x y : Value} (h : VD2 w b x y) (v : Value) : VD2 (w.setCell ⟨b, 1, none⟩ v) b x v := by
  refine ⟨?_, World.cell?_setCell_same _ _ _ h.2.1, fun i => by rw [World.frozen?_setCell]; exact h.2.2 i⟩
  rw [World.cell?_setCell_other _ _ _ _ (by simp)]; exact h.1

/-- The data of a dealing. -/
structure DlD where
  c : List Int
  s : List Int
def DlD.n (d : DlD) : Nat := d.c.length + d.s.length
def mkD (k : Int) (d : DlD) : DlD := ⟨mkI k d.c, mkI (k + d.c.length) d.s⟩
def InD (P : Nat) (w : World) (v : Value) (d : DlD) : Prop := ∃ a b, v = .agg #[a, b] ∧ InI P w a d.c ∧ InI P w b d.s
def OwD (Q P : Nat) (w : World) (v : Value) (d : DlD) : Prop := ∃ a b M, v = .agg #[a, b] ∧ OwI Q M w a d.c ∧ OwI M P w b d.s
theorem InD.below {P : Nat} {w w' : World} {v : Value} {d : DlD} (h : InD P w v d) (hb : Below w.heap.size w w') : InD P w' v d := by
  obtain ⟨a, b, rfl, h1, h2⟩ := h
  exact ⟨a, b, rfl, h1.below hb, h2.below hb⟩
theorem InD.mid {P A B : Nat} {w w' : World} {v : Value} {d : DlD} (h : InD P w v d) (hm : Mid A B w w') (hA : P ≤ A) : InD P w' v d := by
  obtain ⟨a, b, rfl, h1, h2⟩ := h
  exact ⟨a, b, rfl, h1.mid hm hA, h2.mid hm hA⟩
theorem OwD.below {Q P : Nat} {w w' : World} {v : Value} {d : DlD} (h : OwD Q P w v d) (hb : Below w.heap.size w w') : OwD Q P w' v d := by
  obtain ⟨a, b, M, rfl, h1, h2⟩ := h
  exact ⟨a, b, M, rfl, h1.below hb, h2.below hb⟩
theorem OwD.mid {Q P A B : Nat} {w w' : World} {v : Value} {d : DlD} (h : OwD Q P w v d) (hm : Mid A B w w') (ho : P ≤ A ∨ B ≤ Q) : OwD Q P w' v d := by
  obtain ⟨a, b, M, rfl, h1, h2⟩ := h
  have q1 := h1.2.2.2
  have q2 := h2.2.2.2
  exact ⟨a, b, M, rfl, h1.mid hm (by omega), h2.mid hm (by omega)⟩
theorem OwD.wide {Q P Q' P' : Nat} {w : World} {v : Value} {d : DlD} (h : OwD Q P w v d) (hQ : Q' ≤ Q) (hP : P ≤ P') (hs : P' ≤ w.heap.size := by exact Nat.le_refl _) : OwD Q' P' w v d := by
  obtain ⟨a, b, M, rfl, h1, h2⟩ := h
  exact ⟨a, b, M, rfl, h1.wide hQ (Nat.le_refl _) h1.2.2.1, h2.wide (Nat.le_refl _) hP hs⟩
theorem OwD.toIn {Q P : Nat} {w : World} {v : Value} {d : DlD} (h : OwD Q P w v d) : InD P w v d := by
  obtain ⟨a, b, M, rfl, h1, h2⟩ := h
  have q2 := h2.2.2.2
  have q4 := h2.2.2.1
  exact ⟨a, b, rfl, h1.toIn.wide (by omega) q4, h2.toIn⟩
theorem InD.le {P : Nat} {w : World} {v : Value} {d : DlD} (h : InD P w v d) : P ≤ w.heap.size := by obtain ⟨a, b, rfl, h1, _⟩ := h; exact h1.1
theorem OwD.le {Q P : Nat} {w : World} {v : Value} {d : DlD} (h : OwD Q P w v d) : P ≤ w.heap.size := h.toIn.le
theorem InD.shape {P : Nat} {w : World} {v : Value} {d : DlD} (h : InD P w v d) : ∃ a a' b b', v = .agg #[.slice a d.c.length a', .slice b d.s.length b'] ∧ InI P w (.slice a d.c.length a') d.c ∧ InI P w (.slice b d.s.length b') d.s := by
  obtain ⟨x, y, rfl, h1, h2⟩ := h
  obtain ⟨a, a', rfl⟩ := h1.shape
  obtain ⟨b, b', rfl⟩ := h2.shape
  exact ⟨a, a', b, b', rfl, h1, h2⟩
theorem owD_nil (Q : Nat) (w : World) (hQ : Q ≤ w.heap.size) : OwD Q w.heap.size w (.agg #[.slice none 0 0, .slice none 0 0]) ⟨[], []⟩ :=
  ⟨_, _, _, rfl, owI_nil Q w hQ, owI_nil _ w (Nat.le_refl _)⟩

def MadeD (w : World) (d : DlD) (e : Ending) (w' : World) : Prop := ∃ v, e = .returned v ∧ OwD w.heap.size w'.heap.size w' v d ∧ Below w.heap.size w w'
def MarkD (Q P : Nat) (w : World) (d : DlD) (v : Value) (k : Int) (e : Ending) (w' : World) : Prop := e = .returned (.int .i64 (k + (d.n : Int))) ∧ OwD Q P w' v (mkD k d) ∧ Mid Q P w w'

set_option maxRecDepth 100000 in
set_option maxHeartbeats 1600000 in
theorem toD_any {P : Nat} {w : World} {v : Value} {d : DlD} (h : InD P w v d) (hl : d.n ≤ 17592186044416) :
    Calls Tryz.prog 20 #[v] w (MadeD w d) := by
  have hP := h.le
  obtain ⟨a1, a2, b1, b2, rfl, h1, h2⟩ := h.shape
  clear h
  obtain ⟨hl1, hl2⟩ : d.c.length ≤ 17592186044416 ∧ d.s.length ≤ 17592186044416 := by unfold DlD.n at hl; omega
  generalize ha : Value.slice a1 d.c.length a2 = a at h1
  generalize hb : Value.slice b1 d.s.length b2 = b at h2
  have hb0 := ba w (.cells #[a, b] 52)
  have hb1 := bt hb0 (ba _ (.cells #[.slice none 0 0, .slice none 0 0] 34))
  have hb2 := bt hb1 (ba _ (.cells #[.slice none 0 0, .slice none 0 0] 34))
  have HX := Lib.hid (((v2_at w w.heap.size rfl a b 52).below (ba _ (.cells #[.slice none 0 0, .slice none 0 0] 34))).below (ba _ (.cells #[.slice none 0 0, .slice none 0 0] 34)))
  have HY := Lib.hid ((v2_at (w.alloc (.cells #[a, b] 52)) (w.heap.size + 1) (by simp) (.slice none 0 0) (.slice none 0 0) 34).below (ba _ (.cells #[.slice none 0 0, .slice none 0 0] 34)))
  have HZ := Lib.hid (v2_at ((w.alloc (.cells #[a, b] 52)).alloc (.cells #[.slice none 0 0, .slice none 0 0] 34)) (w.heap.size + 2) (by simp) (.slice none 0 0) (.slice none 0 0) 34)
  have I1 := Lib.hid (h1.below hb2)
  have I2 := Lib.hid (h2.below hb2)
  have HB := Lib.hid hb2
  clear hb0 hb1 hb2 h1 h2
  subst ha hb
  go_enter Tryz.func20, Tryz.ntmps20
  go_wp2_with fail
  refine (toI_any I1.out hl1).mono ?_
  rintro e w1 ⟨v1, rfl, ho1, hb1⟩
  obtain ⟨va, vc, rfl⟩ := own_shape ho1.1
  have I21 := Lib.hid (I2.out.below hb1)
  have HX1 := Lib.hid (HX.out.below hb1)
  have HY1 := Lib.hid (HY.out.below hb1)
  have HZ1 := Lib.hid (HZ.out.below hb1)
  have HB1 := Lib.hid (bt HB.out hb1)
  have HO1 := Lib.hid (ho1.wide (Q' := w.heap.size + 3) (by simp) (Nat.le_refl _) (Nat.le_refl _))
  clear hb1 ho1
  obtain ⟨x0, x1, _⟩ := HX1.out
  obtain ⟨z0, z1, zf⟩ := HZ1.out
  have zf0 := zf 0
  clear zf
  go_wp2_with fail
  clear x0 x1 z0 z1 zf0
  have I22 := Lib.hid (I21.out.belowP ((Below.refl P w1).setCell (p := ⟨w.heap.size + 2, 0, none⟩) (Nat.le_trans hP (Nat.le_add_right _ _)) (.slice va d.c.length vc)))
  have HX2 := Lib.hid (HX1.out.other ⟨w.heap.size + 2, 0, none⟩ (.slice va d.c.length vc) (by simp))
  have HY2 := Lib.hid (HY1.out.other ⟨w.heap.size + 2, 0, none⟩ (.slice va d.c.length vc) (by simp))
  have HZ2 := Lib.hid (HZ1.out.set0 (.slice va d.c.length vc))
  have HO2 := Lib.hid (HO1.out.mid (mid_cell w1 (w.heap.size + 2) 0 (.slice va d.c.length vc)) (.inr (Nat.le_refl _)))
  have HB2 := Lib.hid (HB1.out.setCell (p := ⟨w.heap.size + 2, 0, none⟩) (Nat.le_add_right _ _) (.slice va d.c.length vc))
  clear I21 HX1 HY1 HZ1 HO1 HB1
  refine (toI_any I22.out hl2).mono ?_
  rintro e w2 ⟨v2, rfl, ho2, hb2⟩
  obtain ⟨vb, wb, rfl⟩ := own_shape ho2.1
  have HY3 := Lib.hid (HY2.out.below hb2)
  have HZ3 := Lib.hid (HZ2.out.below hb2)
  have HO3 := Lib.hid (HO2.out.below hb2)
  have HU3 := Lib.hid (ho2.wide (Q' := w1.heap.size) (by simp) (Nat.le_refl _) (Nat.le_refl _))
  have HB3 := Lib.hid (bt HB2.out hb2)
  clear hb2 ho2 I22 HX2 HY2 HZ2 HO2 HB2
  obtain ⟨y0, y1, yf⟩ := HY3.out
  have yf0 := yf 0
  have yf1 := yf 1
  obtain ⟨z0, z1, zf⟩ := HZ3.out
  have zf1 := zf 1
  clear zf yf
  go_wp2
  (try simp only [Exit.inBlock, Exit.then])
  refine bodyPost_ret (v := .agg #[.slice va d.c.length vc, .slice vb d.s.length wb]) ?_ rfl ⟨_, rfl, ?_, ?_⟩
  · rw [results_cell_one rfl]; go_simp
  · have M := (((mid_cell w2 (w.heap.size + 2) 1 (.slice vb d.s.length wb)).wide (Q' := w.heap.size + 1) (P' := w.heap.size + 3) (by omega) (by omega)).trans ((mid_cell _ (w.heap.size + 1) 0 (.slice va d.c.length vc)).wide (by omega) (by omega))).trans ((mid_cell _ (w.heap.size + 1) 1 (.slice vb d.s.length wb)).wide (by omega) (by omega))
    have l1 := HO3.out.2.2.2
    have o5 := HO3.out.mid M (.inr (Nat.le_refl _))
    have u5 := HU3.out.mid M (.inr l1)
    exact ⟨_, _, _, rfl, o5.wide (Nat.le_add_right _ _) (Nat.le_refl _) o5.2.2.1, u5.wide (Nat.le_refl _) (by simp) (Nat.le_refl _)⟩
  · exact ((HB3.out.setCell (show w.heap.size ≤ w.heap.size + 2 by omega) _).setCell (show w.heap.size ≤ w.heap.size + 1 by omega) _).setCell (show w.heap.size ≤ w.heap.size + 1 by omega) _

set_option maxRecDepth 100000 in
set_option maxHeartbeats 1600000 in
theorem eqD_any {P P' : Nat} {w : World} {v v' : Value} {d : DlD} (h : InD P w v d) (h' : InD P' w v' d) (hl : d.n ≤ 17592186044416) :
    Calls Tryz.prog 22 #[v, v'] w fun e w' => e = .returned (.bool true) ∧ Below w.heap.size w w' := by
  obtain ⟨a1, a2, b1, b2, rfl, h1, h2⟩ := h.shape
  obtain ⟨a3, a4, b3, b4, rfl, h1', h2'⟩ := h'.shape
  obtain ⟨hl1, hl2⟩ : d.c.length ≤ 17592186044416 ∧ d.s.length ≤ 17592186044416 := by unfold DlD.n at hl; omega
  generalize ha : Value.slice a1 d.c.length a2 = a at h1
  generalize hb : Value.slice b1 d.s.length b2 = b at h2
  generalize ha' : Value.slice a3 d.c.length a4 = a' at h1'
  generalize hb' : Value.slice b3 d.s.length b4 = b' at h2'
  have hb1 := ba w (.cells #[a, b] 34)
  have hb2 := bt hb1 (ba _ (.cells #[a', b'] 34))
  have HX := Lib.hid ((v2_at w w.heap.size rfl a b 34).below (ba _ (.cells #[a', b'] 34)))
  have HY := Lib.hid (v2_at (w.alloc (.cells #[a, b] 34)) (w.heap.size + 1) (by simp) a' b' 34)
  have J1 := Lib.hid (h1.below hb2)
  have J2 := Lib.hid (h2.below hb2)
  have K1 := Lib.hid (h1'.below hb2)
  have K2 := Lib.hid (h2'.below hb2)
  have HB := Lib.hid hb2
  clear hb1 hb2 h1 h2 h1' h2' h h'
  subst ha hb ha' hb'
  obtain ⟨x0, _, _⟩ := HX.out
  obtain ⟨y0, _, _⟩ := HY.out
  go_enter Tryz.func22, Tryz.ntmps22
  go_wp2_with fail
  refine (eqI_any J1.out K1.out hl1).mono ?_
  rintro e w1 ⟨rfl, hb1⟩
  have J21 := Lib.hid (J2.out.below hb1)
  have K21 := Lib.hid (K2.out.below hb1)
  have HX1 := Lib.hid (HX.out.below hb1)
  have HY1 := Lib.hid (HY.out.below hb1)
  have HB1 := Lib.hid (bt HB.out hb1)
  clear hb1 x0 y0
  obtain ⟨_, x1, _⟩ := HX1.out
  obtain ⟨_, y1, _⟩ := HY1.out
  go_wp2_with fail
  refine (eqI_any J21.out K21.out hl2).mono ?_
  rintro e w2 ⟨rfl, hb2⟩
  have HB2 := Lib.hid (bt HB1.out hb2)
  clear hb2 x1 y1
  go_wp2
  go_ret
  exact ⟨rfl, HB2.out⟩

set_option maxRecDepth 100000 in
set_option maxHeartbeats 1600000 in
theorem szD_any {P : Nat} {w : World} {v : Value} {d : DlD} {left : Int} (h : InD P w v d) (h0 : 0 ≤ left) (h1 : left ≤ 1048576) (hl1 : d.c.length ≤ maxLen) (hl2 : d.s.length ≤ maxLen) :
    Calls Tryz.prog 17 #[v, .int .i64 left] w fun e w' => e = .returned (.int .i64 (szV d.n left)) ∧ Below w.heap.size w w' := by
  obtain ⟨a, b, rfl, j1, j2⟩ := h
  have hal := ba w (.cells #[a, b] 52)
  have HX := Lib.hid (v2_at w w.heap.size rfl a b 52)
  have J1 := Lib.hid (j1.below hal)
  have J2 := Lib.hid (j2.below hal)
  have HB := Lib.hid hal
  obtain ⟨a1, a2, rfl⟩ := j1.shape
  obtain ⟨b1, b2, rfl⟩ := j2.shape
  clear hal j1 j2
  obtain ⟨x0, x1, _⟩ := HX.out
  by_cases q1 : (d.c.length : Int) ≤ left
  · have e1 : szV d.c.length left = left - d.c.length := by simp [szV, q1]
    by_cases q2 : (d.s.length : Int) ≤ left - d.c.length
    · have e2 : szV d.s.length (left - d.c.length) = left - d.c.length - d.s.length := by simp [szV, q2]
      have e4 : szV d.n left = left - d.c.length - d.s.length := by
        unfold szV DlD.n; rw [if_pos (by omega)]; omega
      rw [e4]
      have E1 := Lib.hid e1
      have E2 := Lib.hid e2
      clear e1 e2 e4
      go_enter Tryz.func17, Tryz.ntmps17
      go_wp2_with fail
      refine (szI_any J1.out h0 h1 hl1).mono ?_
      rw [E1.out]
      rintro e w' ⟨rfl, rfl⟩
      go_wp2_with fail
      refine (szI_any J2.out (by omega) (by omega) hl2).mono ?_
      rw [E2.out]
      rintro e w' ⟨rfl, rfl⟩
      go_wp2
      go_ret
      exact ⟨rfl, HB.out⟩
    · have e2 : szV d.s.length (left - d.c.length) = -1 := by simp [szV, q2]
      have e4 : szV d.n left = -1 := by unfold szV DlD.n; rw [if_neg (by omega)]
      rw [e4]
      have E1 := Lib.hid e1
      have E2 := Lib.hid e2
      clear e1 e2 e4
      go_enter Tryz.func17, Tryz.ntmps17
      go_wp2_with fail
      refine (szI_any J1.out h0 h1 hl1).mono ?_
      rw [E1.out]
      rintro e w' ⟨rfl, rfl⟩
      go_wp2_with fail
      refine (szI_any J2.out (by omega) (by omega) hl2).mono ?_
      rw [E2.out]
      rintro e w' ⟨rfl, rfl⟩
      go_wp2
      go_ret
      exact ⟨rfl, HB.out⟩
  · have e1 : szV d.c.length left = -1 := by simp [szV, q1]
    have e4 : szV d.n left = -1 := by unfold szV DlD.n; rw [if_neg (by omega)]
    rw [e4]
    have E1 := Lib.hid e1
    clear e1 e4
    go_enter Tryz.func17, Tryz.ntmps17
    go_wp2_with fail
    refine (szI_any J1.out h0 h1 hl1).mono ?_
    rw [E1.out]
    rintro e w' ⟨rfl, rfl⟩
    go_wp2
    go_ret
    exact ⟨rfl, HB.out⟩

/-! ### Dealings that come into a law -/
theorem inI_opn' {T : Type} {enc : TypeId × Value → T} {W : World} {held : Bool} {fuel : Nat} {v : Value} {x : DataW T × List MemPlace}
    (hf : DataW.trod enc Tryz.prog W 0 (fun _ => true) held fuel 32 [v] = some x) : ∃ zs, InI W.heap.size W v zs ∧ zs.length ≤ maxLen := by
  rcases open_ints Tryz.underlying32 Tryz.underlying3 (by kernel_rfl) hf with ⟨hcs, _⟩ | ⟨y, l, c, zs, hcs, _, hl, hm, hz, _, hcell, hwz⟩
  · obtain rfl := (List.cons.inj hcs).1
    exact ⟨[], ⟨Nat.le_refl _, none, 0, rfl, .inl rfl, fun _ => rfl, Nat.le_refl _⟩, by simp⟩
  · obtain rfl := (List.cons.inj hcs).1
    simp only [if_true] at hz
    obtain ⟨q1, q2, q3⟩ := inI_of_row (w := W) (a := some y) (len := l) (cap := c) (zs := zs) (.inr ⟨y, rfl, hl, hm, hz, hcell, hwz⟩)
    exact ⟨_, q1, by omega⟩
set_option maxRecDepth 100000 in
theorem inD_open {T : Type} {enc : TypeId × Value → T} {W : World} {held : Bool} {b0 : Nat} {v : Value} {d : DataW T} {p : List MemPlace}
    (hv : Value.okWide Tryz.prog W .any b0 52 v) (h : DataW.Trod enc Tryz.prog W 0 (fun _ => true) held 52 v d p) :
    ∃ D : DlD, InD W.heap.size W v D ∧ D.c.length ≤ maxLen ∧ D.s.length ≤ maxLen := by
  obtain ⟨v0, v1, y0, y1, n, rfl, _, _, h0, h1⟩ := open_agg2 Tryz.underlying52 (by kernel_rfl) (by kernel_rfl) hv h
  obtain ⟨z0, k0, l0⟩ := inI_opn' h0
  obtain ⟨z1, k1, l1⟩ := inI_opn' h1
  exact ⟨⟨z0, z1⟩, ⟨_, _, rfl, k0, k1⟩, l0, l1⟩

end Go.Proofs.YtchlnkdlnfjijaaGreat

