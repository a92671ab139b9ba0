/- How the laws copy, compare, measure, mark and hold bases; bases that come into a law. -/
import Derived.Test.YtglfbhkdmkneoaaComF
import Derived.Deep.Slices
import Derived.OpenShut
import Derived.Lib.SmallJoins
namespace Go.Proofs.Ytglfbhkdmkneoaa
open Go.RowKit Go.ChangeShapes Go.WideShapes Go.ChangeAt Go.Joins Go.Deep
set_option linter.unusedVariables false
set_option linter.unusedSimpArgs false

/-! ### Two values in a block that may be written -/
def B2 (w : World) (b : Nat) (x y : Value) : Prop := w.cell? ⟨b, 0, none⟩ = some x ∧ w.cell? ⟨b, 1, none⟩ = some y ∧ ∀ i, w.frozen? ⟨b, i, none⟩ = false
theorem b2_at (w : World) (b : Nat) (hb : w.heap.size = b) (x y : Value) (t : TypeId) : B2 (w.alloc (.cells #[x, y] t)) b x y := by
  subst hb
  refine ⟨?_, ?_, fun _ => World.frozen?_alloc_at _ _ _ _ rfl⟩ <;> (rw [World.cell?_alloc_at _ _ _ _ rfl]; rfl)
theorem B2.lt {w : World} {b : Nat} {x y : Value} (h : B2 w b x y) : b < w.heap.size := World.block_lt_of_cell? w _ h.1
theorem B2.below {w w' : World} {b : Nat} {x y : Value} (h : B2 w b x y) (hb : Below w.heap.size w w') : B2 w' b x y := by
  have hl := h.lt
  refine ⟨?_, ?_, fun i => ?_⟩
  · rw [hb.cell (p := ⟨b, 0, none⟩) hl]; exact h.1
  · rw [hb.cell (p := ⟨b, 1, none⟩) hl]; exact h.2.1
  · rw [hb.frozen (p := ⟨b, i, none⟩) hl]; exact h.2.2 i
theorem B2.mid {w w' : World} {b Q P : Nat} {x y : Value} (h : B2 w b x y) (hm : Mid Q P w w') (ho : b < Q ∨ P ≤ b) : B2 w' b x y := by
  have hl := h.lt
  have he := hm.block b hl ho
  refine ⟨?_, ?_, fun i => ?_⟩
  · rw [World.cell?_of_block (a := ⟨b, 0, none⟩) he]; exact h.1
  · rw [World.cell?_of_block (a := ⟨b, 1, none⟩) he]; exact h.2.1
  · have := h.2.2 i
    unfold World.frozen? at this ⊢
    simp only [he]
    exact this
theorem B2.d2 {w : World} {b : Nat} {x y : Value} (h : B2 w b x y) : D2 w b x y := ⟨h.1, h.2.1⟩

/-! ### A copy -/
def MadeB (w : World) (H : Int) (hs : List Int) (e : Ending) (w' : World) : Prop := ∃ y, e = .returned (.agg #[.int .i64 H, y]) ∧ OwI w.heap.size w'.heap.size w' y hs ∧ Below w.heap.size w w'
set_option maxRecDepth 100000 in
set_option maxHeartbeats 1600000 in
theorem toBas_any {P : Nat} {w : World} {H : Int} {y : Value} {hs : List Int} (h : InI P w y hs) (hl : hs.length ≤ 17592186044416) :
    Calls Try.prog 22 #[.agg #[.int .i64 H, y]] w (MadeB w H hs) := by
  obtain ⟨ya, yc, rfl⟩ := h.shape
  have hb2 := bt (bt (ba w (.cells #[.int .i64 H, .slice ya hs.length yc] 34)) (ba _ (.cells #[.int .i64 0, .slice none 0 0] 26))) (ba _ (.cells #[.int .i64 H, .slice none 0 0] 26))
  have HX := Lib.hid (((b2_at w w.heap.size rfl (.int .i64 H) (.slice ya hs.length yc) 34).below (ba _ (.cells #[.int .i64 0, .slice none 0 0] 26))).below (ba _ (.cells #[.int .i64 H, .slice none 0 0] 26)))
  have HY := Lib.hid ((b2_at (w.alloc (.cells #[.int .i64 H, .slice ya hs.length yc] 34)) (w.heap.size + 1) (by simp) (.int .i64 0) (.slice none 0 0) 26).below (ba _ (.cells #[.int .i64 H, .slice none 0 0] 26)))
  have HZ := Lib.hid (b2_at ((w.alloc (.cells #[.int .i64 H, .slice ya hs.length yc] 34)).alloc (.cells #[.int .i64 0, .slice none 0 0] 26)) (w.heap.size + 2) (by simp) (.int .i64 H) (.slice none 0 0) 26)
  have I2 := Lib.hid (h.below hb2)
  have HB := Lib.hid hb2
  clear hb2 h
  go_enter Try.func22, Try.ntmps22
  go_wp2_with fail
  refine (toI_any I2.out hl).mono ?_
  rintro e w2 ⟨v2, rfl, ho2, hbw⟩
  obtain ⟨vb, wb, rfl⟩ := own_shape ho2.1
  have HY3 := Lib.hid (HY.out.below hbw)
  have HZ3 := Lib.hid (HZ.out.below hbw)
  have HB3 := Lib.hid (bt HB.out hbw)
  have HO3 := Lib.hid (ho2.wide (Q' := w.heap.size + 3) (by simp) (Nat.le_refl _) (Nat.le_refl _))
  clear hbw ho2
  obtain ⟨y0, y1, yf⟩ := HY3.out
  have yf0 := yf 0
  have yf1 := yf 1
  obtain ⟨z0, z1, zf⟩ := HZ3.out
  have zf1 := zf 1
  clear zf yf
  go_wp2
  (try simp only [Exit.inBlock, Exit.then])
  refine bodyPost_ret (v := .agg #[.int .i64 H, .slice vb hs.length wb]) ?_ rfl ⟨_, rfl, ?_, ?_⟩
  · rw [results_cell_one rfl]; go_simp
  · have M := (((mid_cell w2 (w.heap.size + 2) 1 (.slice vb hs.length wb)).wide (Q' := w.heap.size + 1) (P' := w.heap.size + 3) (by omega) (by omega)).trans ((mid_cell _ (w.heap.size + 1) 0 (.int .i64 H)).wide (by omega) (by omega))).trans ((mid_cell _ (w.heap.size + 1) 1 (.slice vb hs.length wb)).wide (by omega) (by omega))
    have o5 := HO3.out.mid M (.inr (Nat.le_refl _))
    exact o5.wide (Nat.le_add_right _ _) (by simp) (Nat.le_refl _)
  · exact ((HB3.out.setCell (show w.heap.size ≤ w.heap.size + 2 by omega) _).setCell (show w.heap.size ≤ w.heap.size + 1 by omega) _).setCell (show w.heap.size ≤ w.heap.size + 1 by omega) _

set_option maxRecDepth 100000 in
set_option maxHeartbeats 1600000 in
theorem eqBas_any {P P' : Nat} {w : World} {H : Int} {y y' : Value} {hs : List Int} (h : InI P w y hs) (h' : InI P' w y' hs) (hl : hs.length ≤ 17592186044416) :
    Calls Try.prog 17 #[.agg #[.int .i64 H, y], .agg #[.int .i64 H, y']] w fun e w' => e = .returned (.bool true) ∧ Below w.heap.size w w' := by
  obtain ⟨ya, yc, rfl⟩ := h.shape
  obtain ⟨za, zc, rfl⟩ := h'.shape
  have hb2 := bt (ba w (.cells #[.int .i64 H, .slice ya hs.length yc] 26)) (ba _ (.cells #[.int .i64 H, .slice za hs.length zc] 26))
  have HX := Lib.hid ((b2_at w w.heap.size rfl (.int .i64 H) (.slice ya hs.length yc) 26).below (ba _ (.cells #[.int .i64 H, .slice za hs.length zc] 26)))
  have HY := Lib.hid (b2_at (w.alloc (.cells #[.int .i64 H, .slice ya hs.length yc] 26)) (w.heap.size + 1) (by simp) (.int .i64 H) (.slice za hs.length zc) 26)
  have J1 := Lib.hid (h.below hb2)
  have K1 := Lib.hid (h'.below hb2)
  have HB := Lib.hid hb2
  clear hb2 h h'
  obtain ⟨x0, x1, _⟩ := HX.out
  obtain ⟨y0, y1, _⟩ := HY.out
  go_enter Try.func17, Try.ntmps17
  go_wp2_with fail
  refine (eqI_any J1.out K1.out hl).mono ?_
  rintro e w1 ⟨rfl, hb1⟩
  have HB1 := Lib.hid (bt HB.out hb1)
  clear hb1
  go_wp2
  go_ret
  exact ⟨rfl, HB1.out⟩

theorem szBas_any {P : Nat} {w : World} {H : Int} {y : Value} {hs : List Int} {left : Int} (h : InI P w y hs) (h0 : 0 ≤ left) (h1 : left ≤ 1048576) (hl : hs.length ≤ maxLen) :
    Calls Try.prog 20 #[.agg #[.int .i64 H, y], .int .i64 left] w fun e w' => e = .returned (.int .i64 (szV hs.length left)) ∧ Below w.heap.size w w' := by
  obtain ⟨ya, yc, rfl⟩ := h.shape
  have hb2 := ba w (.cells #[.int .i64 H, .slice ya hs.length yc] 34)
  have HX := Lib.hid (b2_at w w.heap.size rfl (.int .i64 H) (.slice ya hs.length yc) 34)
  have J1 := Lib.hid (h.below hb2)
  have HB := Lib.hid hb2
  clear hb2 h
  obtain ⟨x0, x1, _⟩ := HX.out
  by_cases hn : (hs.length : Int) ≤ left
  · have e1 : szV hs.length left = left - hs.length := by simp [szV, hn]
    have E1 := Lib.hid e1
    rw [e1]
    have hneg : ¬ left - (hs.length : Int) < 0 := by omega
    clear e1
    go_enter Try.func20, Try.ntmps20
    go_wp2_with fail
    refine (szI_any J1.out h0 h1 hl).mono ?_
    rw [E1.out]
    rintro e w' ⟨rfl, rfl⟩
    go_wp2
    go_ret
    exact ⟨rfl, HB.out⟩
  · have e1 : szV hs.length left = -1 := by simp [szV, hn]
    have E1 := Lib.hid e1
    rw [e1]
    clear e1
    go_enter Try.func20, Try.ntmps20
    go_wp2_with fail
    refine (szI_any J1.out h0 h1 hl).mono ?_
    rw [E1.out]
    rintro e w' ⟨rfl, rfl⟩
    go_wp2
    go_ret
    exact ⟨rfl, HB.out⟩

/-! ### Marks -/
theorem markBas_any {Q P : Nat} {w : World} {H : Int} {y : Value} {hs : List Int} {k : Int} (h : OwI Q P w y hs) (hk0 : 0 ≤ k) (hk1 : k ≤ 8796093022208) (hl : hs.length ≤ 8796093022208) :
    Calls Try.prog 18 #[.agg #[.int .i64 H, y], .int .i64 k] w (MarkI Q P w y hs k) := by
  obtain ⟨ya, yc, rfl⟩ := own_shape h.1
  have hal := ba w (.cells #[.int .i64 H, .slice ya hs.length yc] 26)
  have HX := Lib.hid (b2_at w w.heap.size rfl (.int .i64 H) (.slice ya hs.length yc) 26)
  have HM := Lib.hid (Mid.ofBelow (Q := Q) (P := P) hal)
  have J1 := Lib.hid (h.below hal)
  clear hal h
  obtain ⟨x0, x1, _⟩ := HX.out
  go_enter Try.func18, Try.ntmps18
  go_wp2_with fail
  refine (markI_any J1.out hk0 (by omega) (by omega)).mono ?_
  rintro e w1 ⟨rfl, ho1, hm1⟩
  have O1 := Lib.hid ho1
  have HM1 := Lib.hid (HM.out.trans hm1)
  clear hm1 ho1 x0 x1
  go_wp2
  go_ret
  exact ⟨rfl, O1.out, HM1.out⟩
theorem heldBas_any {P : Nat} {w : World} {H : Int} {y : Value} {hs : List Int} {k : Int} (h : InI P w y (mkI k hs)) (hk0 : 0 ≤ k) (hk1 : k ≤ 8796093022208) (hl : hs.length ≤ 8796093022208) :
    Calls Try.prog 19 #[.agg #[.int .i64 H, y], .int .i64 k] w fun e w' => e = .returned (.int .i64 (k + (hs.length : Int))) ∧ Below w.heap.size w w' := by
  obtain ⟨ya, yc, rfl⟩ := h.shape
  have hal := ba w (.cells #[.int .i64 H, .slice ya (mkI k hs).length yc] 26)
  have HX := Lib.hid (b2_at w w.heap.size rfl (.int .i64 H) (.slice ya (mkI k hs).length yc) 26)
  have J1 := Lib.hid (h.below hal)
  have HB := Lib.hid hal
  clear hal h
  obtain ⟨x0, x1, _⟩ := HX.out
  go_enter Try.func19, Try.ntmps19
  go_wp2_with fail
  refine (heldI_any J1.out hk0 (by omega) (by omega)).mono ?_
  rintro e w' ⟨rfl, rfl⟩
  have hneg : ¬ k + (hs.length : Int) < 0 := by omega
  go_wp2
  go_ret
  exact ⟨rfl, HB.out⟩

/-! ### Bases that come into a law -/
theorem inI_opn {T : Type} {enc : TypeId × Value → T} {W : World} {held : Bool} {fuel : Nat} {v : Value} {x : DataW T × List MemPlace}
    (hf : DataW.trod enc Try.prog W 0 (fun _ => true) held fuel 24 [v] = some x) : ∃ zs, InI W.heap.size W v zs ∧ zs.length ≤ maxLen := by
  rcases open_ints Try.underlying24 Try.underlying3 (by kernel_rfl) hf with ⟨hcs, _⟩ | ⟨y, l, c, zs, hcs, _, hl, hm, hz, _, hcell, hwz⟩
  · obtain rfl := (List.cons.inj hcs).1
    exact ⟨[], ⟨Nat.le_refl _, none, 0, rfl, .inl rfl, fun _ => rfl, Nat.le_refl _⟩, by simp⟩
  · obtain rfl := (List.cons.inj hcs).1
    simp only [if_true] at hz
    obtain ⟨q1, q2, q3⟩ := inI_of_row (w := W) (a := some y) (len := l) (cap := c) (zs := zs) (.inr ⟨y, rfl, hl, hm, hz, hcell, hwz⟩)
    exact ⟨_, q1, by omega⟩
set_option maxRecDepth 100000 in
theorem inBas_open {T : Type} {enc : TypeId × Value → T} {W : World} {held : Bool} {b0 : Nat} {v : Value} {d : DataW T} {p : List MemPlace}
    (hv : Value.okWide Try.prog W .any b0 34 v) (h : DataW.Trod enc Try.prog W 0 (fun _ => true) held 34 v d p) :
    ∃ (H : Int) (y : Value) (hs : List Int), v = .agg #[.int .i64 H, y] ∧ InI W.heap.size W y hs ∧ hs.length ≤ maxLen := by
  obtain ⟨v0, v1, y0, y1, n, rfl, _, _, h0, h1⟩ := open_agg2 Try.underlying34 (by kernel_rfl) (by kernel_rfl) hv h
  obtain ⟨H, e0, _, _⟩ := DataW.trod_int Try.underlying3 h0
  obtain rfl := (List.cons.inj e0).1
  obtain ⟨z1, k1, l1⟩ := inI_opn h1
  exact ⟨H, v1, z1, rfl, k1, l1⟩

end Go.Proofs.Ytglfbhkdmkneoaa

