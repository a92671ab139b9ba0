/- Chapter 9, the reference: proofs of openings. -/
import Derived.Test.YtblclghbabhdlaaComF
import Derived.Test.YtblclghbabhdlaaComG
import Derived.Deep.RegionHeld3
namespace Go.Proofs.Ytblclghbabhdlaa
open Go.RowKit
set_option linter.unusedVariables false
set_option linter.unusedSimpArgs false

/-! ### A list of two, of one, in memory -/
def CC (w : World) (b o : Nat) (x y : Int) : Prop := w.cell? ⟨b, o, none⟩ = some (.int .i64 x) ∧ w.cell? ⟨b, o + 1, none⟩ = some (.int .i64 y)
theorem CC.below {w w' : World} {b o : Nat} {x y : Int} (h : CC w b o x y) (hb : Below w.heap.size w w') : CC w' b o x y := by
  have hl := World.block_lt_of_cell? w _ h.1
  exact ⟨by rw [hb.cell (p := ⟨b, o, none⟩) hl]; exact h.1, by rw [hb.cell (p := ⟨b, o + 1, none⟩) hl]; exact h.2⟩
theorem InI.twoC {B : Nat} {w : World} {ad : Option Addr} {n c : Nat} {x y : Int} (h : InI B w (.slice ad n c) [x, y]) : ∃ b o, ad = some ⟨b, o, none⟩ ∧ CC w b o x y := by
  obtain ⟨h1, _⟩ := h.ints
  rcases h1 with h1 | ⟨b, off, rfl, _, h3⟩
  · cases h1
  · exact ⟨b, off, rfl, by have := h3 0 (by simp); simpa using this, by have := h3 1 (by simp); simpa using this⟩
def C1o (w : World) (b o : Nat) (x : Int) : Prop := w.cell? ⟨b, o, none⟩ = some (.int .i64 x)
theorem C1o.below {w w' : World} {b o : Nat} {x : Int} (h : C1o w b o x) (hb : Below w.heap.size w w') : C1o w' b o x := by
  have hl := World.block_lt_of_cell? w _ h
  unfold C1o; rw [hb.cell (p := ⟨b, o, none⟩) hl]; exact h
theorem InI.oneC {B : Nat} {w : World} {ad : Option Addr} {n c : Nat} {x : Int} (h : InI B w (.slice ad n c) [x]) : ∃ b o, ad = some ⟨b, o, none⟩ ∧ C1o w b o x := by
  obtain ⟨h1, _⟩ := h.ints
  rcases h1 with h1 | ⟨b, off, rfl, _, h3⟩
  · cases h1
  · exact ⟨b, off, rfl, by have := h3 0 (by simp); simpa [C1o] using this⟩
theorem len_two {l : List Int} (h : l.length = 2) : ∃ a b, l = [a, b] := by
  match l, h with
  | [a, b], _ => exact ⟨a, b, rfl⟩
theorem o_nn (a m : Int) (h0 : 0 ≤ a) (h1 : a ≤ 9000000000000000000) (h2 : 2 ≤ m) (h3 : m ≤ 2000000000) (w : World) :
    Calls Try.prog 67 #[.int .i64 a, .int .i64 m] w fun e w' => e = .returned (.int .i64 (a % m)) ∧ w = w' := by
  have e1 : a.tmod m = a % m := Int.tmod_eq_emod_of_nonneg h0
  have h4 := Int.emod_nonneg a (show m ≠ 0 by omega)
  have h5 := Int.emod_lt_of_pos a (show 0 < m by omega)
  have hneg : ¬ a % m < 0 := by omega
  have hm0 : m ≠ 0 := by omega
  go_enter Try.func67, Try.ntmps67
  go_wp2
  go_ret
  exact ⟨rfl, rfl⟩
/-- A proof whose lists are owned, in any order in the memory from Q to P. -/
def OwT (Q P : Nat) (w : World) (v : Value) (p : PrD) : Prop := ∃ a b c, v = .agg #[a, b, c] ∧ OwI Q P w a p.c ∧ OwI Q P w b p.h ∧ OwI Q P w c p.r
theorem OwT.toIn {Q P : Nat} {w : World} {v : Value} {p : PrD} (h : OwT Q P w v p) : InP P w v p := by
  obtain ⟨a, b, c, rfl, h1, h2, h3⟩ := h
  exact ⟨a, b, c, rfl, h1.toIn, h2.toIn, h3.toIn⟩
theorem OwT.below {Q P : Nat} {w w' : World} {v : Value} {p : PrD} (h : OwT Q P w v p) (hb : Below w.heap.size w w') : OwT Q P w' v p := by
  obtain ⟨a, b, c, rfl, h1, h2, h3⟩ := h
  exact ⟨a, b, c, rfl, h1.below hb, h2.below hb, h3.below hb⟩
theorem OwT.mid {Q P A B : Nat} {w w' : World} {v : Value} {p : PrD} (h : OwT Q P w v p) (hm : Mid A B w w') (ho : P ≤ A ∨ B ≤ Q) : OwT Q P w' v p := by
  obtain ⟨a, b, c, rfl, h1, h2, h3⟩ := h
  exact ⟨a, b, c, rfl, h1.mid hm ho, h2.mid hm ho, h3.mid hm ho⟩
theorem OwT.le {Q P : Nat} {w : World} {v : Value} {p : PrD} (h : OwT Q P w v p) : P ≤ w.heap.size := h.toIn.le
def AnsJ (w : World) (p : PrD) (ok : Bool) (e : Ending) (w' : World) : Prop := ∃ a b c, e = .returned (.tuple #[.agg #[a, b, c], .bool ok]) ∧ OwT w.heap.size w'.heap.size w' (.agg #[a, b, c]) p ∧ Below w.heap.size w w'
theorem owT_nil {Q : Nat} {w : World} (h : Q ≤ w.heap.size) : OwT Q w.heap.size w (.agg #[.slice none 0 0, .slice none 0 0, .slice none 0 0]) nilP := ⟨_, _, _, rfl, owI_nil _ w h, owI_nil _ w h, owI_nil _ w h⟩

/-! ### The challenge -/
/-! ### The form -/
def foB (P Q : Int) (p : PrD) (n1 n2 n3 : Int) : Bool := decide ((p.c.length : Int) = n1) && (decide ((p.h.length : Int) = n2) && (decide ((p.r.length : Int) = n3) && (allEl P Q p.c && (allIn p.h 0 (Q - 1) && allIn p.r 0 (Q - 1)))))

theorem inP_h {B : Nat} {w : World} {a1 a2 a3 : Option Addr} {n1 n2 n3 c1 c2 c3 : Nat} {p : PrD} (h : InP B w (pv3 a1 n1 c1 a2 n2 c2 a3 n3 c3) p) : InI B w (.slice a2 n2 c2) p.h := by
  obtain ⟨x, y, z, e, _, h1, _⟩ := h
  simp only [Value.agg.injEq, Array.mk.injEq, List.cons.injEq, and_true] at e
  obtain ⟨rfl, rfl, rfl⟩ := e
  exact h1
theorem inP_r {B : Nat} {w : World} {a1 a2 a3 : Option Addr} {n1 n2 n3 c1 c2 c3 : Nat} {p : PrD} (h : InP B w (pv3 a1 n1 c1 a2 n2 c2 a3 n3 c3) p) : InI B w (.slice a3 n3 c3) p.r := by
  obtain ⟨x, y, z, e, _, _, h1⟩ := h
  simp only [Value.agg.injEq, Array.mk.injEq, List.cons.injEq, and_true] at e
  obtain ⟨rfl, rfl, rfl⟩ := e
  exact h1
theorem inP_c {B : Nat} {w : World} {a1 a2 a3 : Option Addr} {n1 n2 n3 c1 c2 c3 : Nat} {p : PrD} (h : InP B w (pv3 a1 n1 c1 a2 n2 c2 a3 n3 c3) p) : InI B w (.slice a1 n1 c1) p.c := by
  obtain ⟨x, y, z, e, h1, _, _⟩ := h
  simp only [Value.agg.injEq, Array.mk.injEq, List.cons.injEq, and_true] at e
  obtain ⟨rfl, rfl, rfl⟩ := e
  exact h1

set_option maxRecDepth 100000 in
set_option maxHeartbeats 3200000 in
theorem l9Form_any (P Q G n1 n2 n3 : Int) (hg : goodB P Q G = true) {C : Nat} {v : Value} {p : PrD} (hpn : p.n ≤ 1048576) {w : World} (hP : InP C w v p) :
    Calls Try.prog 73 #[gv P Q G, v, .int .i64 n1, .int .i64 n2, .int .i64 n3] w fun e w' => e = .returned (.bool (foB P Q p n1 n2 n3)) ∧ Below w.heap.size w w' := by
  have hmo := good_mo hg
  have hgr := good_rng hg
  obtain ⟨hl1, hl2, hl3⟩ : p.c.length ≤ 1048576 ∧ p.h.length ≤ 1048576 ∧ p.r.length ≤ 1048576 := by unfold PrD.n at hpn; omega
  obtain ⟨a1, c1, a2, c2, a3, c3, rfl, _, _, _⟩ := hP.parts
  have G_9 := Lib.hid (gr_at w (w.heap.size) (by simp) P Q G 32)
  have HB_9 := Lib.hid (show Below w.heap.size w (w.alloc (.cells #[.int .i64 P, .int .i64 Q, .int .i64 G] 32)) from ba _ _)
  have hv := b3_new (w.alloc (.cells #[.int .i64 P, .int .i64 Q, .int .i64 G] 32)) (.slice a1 p.c.length c1) (.slice a2 p.h.length c2) (.slice a3 p.r.length c3) 29
  rw [show (w.alloc (.cells #[.int .i64 P, .int .i64 Q, .int .i64 G] 32)).heap.size = w.heap.size + 1 by simp] at hv
  have X_0 := Lib.hid hv
  have G_0 := Lib.hid (G_9.out.below (ba _ (.cells #[.slice a1 p.c.length c1, .slice a2 p.h.length c2, .slice a3 p.r.length c3] 29)))
  have HB_0 := Lib.hid (bt HB_9.out (ba _ (.cells #[.slice a1 p.c.length c1, .slice a2 p.h.length c2, .slice a3 p.r.length c3] 29)))
  have PP_0 := Lib.hid (hP.below HB_0.out)
  clear hv hP G_9 HB_9 hg hpn
  by_cases h0 : ¬ ((p.c.length : Int) = n1)
  · have B0 : ((p.c.length : Int) == n1) = false := by simpa using h0
    have E1 := Lib.hid (show foB P Q p n1 n2 n3 = false by simp [foB, h0])
    rw [E1.out]
    clear h0
    obtain ⟨gG0, gG1, gG2⟩ := G_0.out
    obtain ⟨bX0, bX1, bX2, _⟩ := X_0.out
    go_enter Try.func73, Try.ntmps73
    go_wp2
    go_ret
    exact ⟨rfl, HB_0.out⟩
  have h0 := Decidable.not_not.1 h0
  have B0 : ((p.c.length : Int) == n1) = true := by simpa using h0
  by_cases h1 : ¬ ((p.h.length : Int) = n2)
  · have B1 : ((p.h.length : Int) == n2) = false := by simpa using h1
    have E1 := Lib.hid (show foB P Q p n1 n2 n3 = false by simp [foB, h0, h1])
    rw [E1.out]
    clear h0 h1
    obtain ⟨gG0, gG1, gG2⟩ := G_0.out
    obtain ⟨bX0, bX1, bX2, _⟩ := X_0.out
    go_enter Try.func73, Try.ntmps73
    go_wp2
    go_ret
    exact ⟨rfl, HB_0.out⟩
  have h1 := Decidable.not_not.1 h1
  have B1 : ((p.h.length : Int) == n2) = true := by simpa using h1
  by_cases h2 : ¬ ((p.r.length : Int) = n3)
  · have B2 : ((p.r.length : Int) == n3) = false := by simpa using h2
    have E1 := Lib.hid (show foB P Q p n1 n2 n3 = false by simp [foB, h0, h1, h2])
    rw [E1.out]
    clear h0 h1 h2
    obtain ⟨gG0, gG1, gG2⟩ := G_0.out
    obtain ⟨bX0, bX1, bX2, _⟩ := X_0.out
    go_enter Try.func73, Try.ntmps73
    go_wp2
    go_ret
    exact ⟨rfl, HB_0.out⟩
  have h2 := Decidable.not_not.1 h2
  have B2 : ((p.r.length : Int) == n3) = true := by simpa using h2
  cases h3 : allEl P Q p.c
  · have K3 := Lib.hid (show allEl P Q p.c = false from h3)
    have E1 := Lib.hid (show foB P Q p n1 n2 n3 = false by simp [foB, h0, h1, h2, h3])
    rw [E1.out]
    clear h0 h1 h2 h3
    obtain ⟨gG0, gG1, gG2⟩ := G_0.out
    obtain ⟨bX0, bX1, bX2, _⟩ := X_0.out
    go_enter Try.func73, Try.ntmps73
    go_wp2_with fail
    refine (gIs_any P Q G hmo a1 p.c.length c1 p.c rfl (by omega) _ ((inP_c PP_0.out).ints).1).mono ?_
    rw [K3.out]
    rintro e v1 ⟨rfl, hb⟩
    have HB_1 := Lib.hid (bt HB_0.out hb)
    have G_1 := Lib.hid (G_0.out.below hb)
    have X_1 := Lib.hid (X_0.out.below hb)
    have PP_1 := Lib.hid (PP_0.out.below hb)
    clear hb gG0 gG1 gG2 bX0 bX1 bX2
    obtain ⟨gG0, gG1, gG2⟩ := G_1.out
    obtain ⟨bX0, bX1, bX2, _⟩ := X_1.out
    go_wp2
    go_ret
    exact ⟨rfl, HB_1.out⟩
  have K3 := Lib.hid (show allEl P Q p.c = true from h3)
  cases h4 : allIn p.h 0 (Q - 1)
  · have K4 := Lib.hid (show allIn p.h 0 (Q - 1) = false from h4)
    have E1 := Lib.hid (show foB P Q p n1 n2 n3 = false by simp [foB, h0, h1, h2, h3, h4])
    rw [E1.out]
    clear h0 h1 h2 h3 h4
    obtain ⟨gG0, gG1, gG2⟩ := G_0.out
    obtain ⟨bX0, bX1, bX2, _⟩ := X_0.out
    go_enter Try.func73, Try.ntmps73
    go_wp2_with fail
    refine (gIs_any P Q G hmo a1 p.c.length c1 p.c rfl (by omega) _ ((inP_c PP_0.out).ints).1).mono ?_
    rw [K3.out]
    rintro e v1 ⟨rfl, hb⟩
    have HB_1 := Lib.hid (bt HB_0.out hb)
    have G_1 := Lib.hid (G_0.out.below hb)
    have X_1 := Lib.hid (X_0.out.below hb)
    have PP_1 := Lib.hid (PP_0.out.below hb)
    clear hb gG0 gG1 gG2 bX0 bX1 bX2
    obtain ⟨gG0, gG1, gG2⟩ := G_1.out
    obtain ⟨bX0, bX1, bX2, _⟩ := X_1.out
    go_wp2_with fail
    refine (gExps_any P Q G ⟨by omega, by omega⟩ a2 p.h.length c2 p.h rfl (by omega) _ ((inP_h PP_1.out).ints).1).mono ?_
    rw [K4.out]
    rintro e v2 ⟨rfl, hb⟩
    have HB_2 := Lib.hid (bt HB_1.out hb)
    have G_2 := Lib.hid (G_1.out.below hb)
    have X_2 := Lib.hid (X_1.out.below hb)
    have PP_2 := Lib.hid (PP_1.out.below hb)
    clear hb gG0 gG1 gG2 bX0 bX1 bX2
    obtain ⟨gG0, gG1, gG2⟩ := G_2.out
    obtain ⟨bX0, bX1, bX2, _⟩ := X_2.out
    go_wp2
    go_ret
    exact ⟨rfl, HB_2.out⟩
  have K4 := Lib.hid (show allIn p.h 0 (Q - 1) = true from h4)
  cases h5 : allIn p.r 0 (Q - 1)
  · have K5 := Lib.hid (show allIn p.r 0 (Q - 1) = false from h5)
    have E1 := Lib.hid (show foB P Q p n1 n2 n3 = false by simp [foB, h0, h1, h2, h3, h4, h5])
    rw [E1.out]
    clear h0 h1 h2 h3 h4 h5
    obtain ⟨gG0, gG1, gG2⟩ := G_0.out
    obtain ⟨bX0, bX1, bX2, _⟩ := X_0.out
    go_enter Try.func73, Try.ntmps73
    go_wp2_with fail
    refine (gIs_any P Q G hmo a1 p.c.length c1 p.c rfl (by omega) _ ((inP_c PP_0.out).ints).1).mono ?_
    rw [K3.out]
    rintro e v1 ⟨rfl, hb⟩
    have HB_1 := Lib.hid (bt HB_0.out hb)
    have G_1 := Lib.hid (G_0.out.below hb)
    have X_1 := Lib.hid (X_0.out.below hb)
    have PP_1 := Lib.hid (PP_0.out.below hb)
    clear hb gG0 gG1 gG2 bX0 bX1 bX2
    obtain ⟨gG0, gG1, gG2⟩ := G_1.out
    obtain ⟨bX0, bX1, bX2, _⟩ := X_1.out
    go_wp2_with fail
    refine (gExps_any P Q G ⟨by omega, by omega⟩ a2 p.h.length c2 p.h rfl (by omega) _ ((inP_h PP_1.out).ints).1).mono ?_
    rw [K4.out]
    rintro e v2 ⟨rfl, hb⟩
    have HB_2 := Lib.hid (bt HB_1.out hb)
    have G_2 := Lib.hid (G_1.out.below hb)
    have X_2 := Lib.hid (X_1.out.below hb)
    have PP_2 := Lib.hid (PP_1.out.below hb)
    clear hb gG0 gG1 gG2 bX0 bX1 bX2
    obtain ⟨gG0, gG1, gG2⟩ := G_2.out
    obtain ⟨bX0, bX1, bX2, _⟩ := X_2.out
    go_wp2_with fail
    refine (gExps_any P Q G ⟨by omega, by omega⟩ a3 p.r.length c3 p.r rfl (by omega) _ ((inP_r PP_2.out).ints).1).mono ?_
    rw [K5.out]
    rintro e v3 ⟨rfl, hb⟩
    have HB_3 := Lib.hid (bt HB_2.out hb)
    have G_3 := Lib.hid (G_2.out.below hb)
    have X_3 := Lib.hid (X_2.out.below hb)
    have PP_3 := Lib.hid (PP_2.out.below hb)
    clear hb gG0 gG1 gG2 bX0 bX1 bX2
    obtain ⟨gG0, gG1, gG2⟩ := G_3.out
    obtain ⟨bX0, bX1, bX2, _⟩ := X_3.out
    go_wp2
    go_ret
    exact ⟨rfl, HB_3.out⟩
  have K5 := Lib.hid (show allIn p.r 0 (Q - 1) = true from h5)
  have E1 := Lib.hid (show foB P Q p n1 n2 n3 = true by simp [foB, h0, h1, h2, h3, h4, h5])
  rw [E1.out]
  clear h0 h1 h2 h3 h4 h5
  obtain ⟨gG0, gG1, gG2⟩ := G_0.out
  obtain ⟨bX0, bX1, bX2, _⟩ := X_0.out
  go_enter Try.func73, Try.ntmps73
  go_wp2_with fail
  refine (gIs_any P Q G hmo a1 p.c.length c1 p.c rfl (by omega) _ ((inP_c PP_0.out).ints).1).mono ?_
  rw [K3.out]
  rintro e v1 ⟨rfl, hb⟩
  have HB_1 := Lib.hid (bt HB_0.out hb)
  have G_1 := Lib.hid (G_0.out.below hb)
  have X_1 := Lib.hid (X_0.out.below hb)
  have PP_1 := Lib.hid (PP_0.out.below hb)
  clear hb gG0 gG1 gG2 bX0 bX1 bX2
  obtain ⟨gG0, gG1, gG2⟩ := G_1.out
  obtain ⟨bX0, bX1, bX2, _⟩ := X_1.out
  go_wp2_with fail
  refine (gExps_any P Q G ⟨by omega, by omega⟩ a2 p.h.length c2 p.h rfl (by omega) _ ((inP_h PP_1.out).ints).1).mono ?_
  rw [K4.out]
  rintro e v2 ⟨rfl, hb⟩
  have HB_2 := Lib.hid (bt HB_1.out hb)
  have G_2 := Lib.hid (G_1.out.below hb)
  have X_2 := Lib.hid (X_1.out.below hb)
  have PP_2 := Lib.hid (PP_1.out.below hb)
  clear hb gG0 gG1 gG2 bX0 bX1 bX2
  obtain ⟨gG0, gG1, gG2⟩ := G_2.out
  obtain ⟨bX0, bX1, bX2, _⟩ := X_2.out
  go_wp2_with fail
  refine (gExps_any P Q G ⟨by omega, by omega⟩ a3 p.r.length c3 p.r rfl (by omega) _ ((inP_r PP_2.out).ints).1).mono ?_
  rw [K5.out]
  rintro e v3 ⟨rfl, hb⟩
  have HB_3 := Lib.hid (bt HB_2.out hb)
  have G_3 := Lib.hid (G_2.out.below hb)
  have X_3 := Lib.hid (X_2.out.below hb)
  have PP_3 := Lib.hid (PP_2.out.below hb)
  clear hb gG0 gG1 gG2 bX0 bX1 bX2
  obtain ⟨gG0, gG1, gG2⟩ := G_3.out
  obtain ⟨bX0, bX1, bX2, _⟩ := X_3.out
  go_wp2
  go_ret
  exact ⟨rfl, HB_3.out⟩

theorem fo_true {P Q : Int} {p : PrD} {n1 n2 n3 : Int} : foB P Q p n1 n2 n3 = true ↔ (p.c.length : Int) = n1 ∧ (p.h.length : Int) = n2 ∧ (p.r.length : Int) = n3 ∧ allEl P Q p.c = true ∧ allIn p.h 0 (Q - 1) = true ∧ allIn p.r 0 (Q - 1) = true := by simp [foB]
theorem sv_form {P Q G H c : Int} {p : PrD} (hg : goodB P Q G = true) (h : foB P Q p 1 1 2 = false) : svE P Q G opL [H, c] [[G, H]] [c] p = false := by
  rw [← Bool.not_eq_true] at h ⊢
  intro hs
  obtain ⟨h1, h2, h3, h4, h5, h6, _⟩ := svE_true.1 hs
  have hQ : 0 < Q := by have := goodB_true.1 hg; omega
  refine h (fo_true.2 ⟨by simp only [List.length_cons, List.length_nil] at h1; omega, by omega, by show (p.r.length : Int) = 2; rw [h3]; rfl, h4, ?_, h5⟩)
  obtain ⟨e, he⟩ := List.length_eq_one_iff.1 h2
  rw [he] at h6 ⊢
  have hx := chX_rng (P := P) (Q := Q) (G := G) (s := opL) (zs := [H, c] ++ p.c) hQ
  simp only [List.headD_cons] at h6
  simp only [allIn, List.all_cons, List.all_nil, Bool.and_true]
  exact inB_true.2 ⟨by omega, by omega⟩
theorem sv_on {P Q G H c x e a b : Int} (hP : 2 ≤ P) (hx : elB P Q x = true) (ha : allIn [a, b] 0 (Q - 1) = true) (x1 : 0 ≤ x ∧ x < P) :
    svE P Q G opL [H, c] [[G, H]] [c] ⟨[x], [e], [a, b]⟩ = (decide (e = chX P Q G opL [H, c, x]) && decide (cmW P G H a b = x * Num.pow c e P % P)) := by
  have hr : rowOk P e [a, b] [[G, H]] [x] [c] = decide (cmW P G H a b = x * Num.pow c e P % P) := by
    show (decide (powsFrom P 1 [G, H] [a, b] = mulFrom P 1 [x, Num.pow c e P]) && true) = _
    rw [Bool.and_true, pows_two hP, mul_two x1.1 x1.2]; rfl
  unfold svE
  show (decide (1 = 1) && (decide (1 = 1) && (decide (2 = 2) && (allEl P Q [x] && (allIn [a, b] 0 (Q - 1) && (decide (e = chX P Q G opL [H, c, x]) && rowOk P e [a, b] [[G, H]] [x] [c])))))) = _
  rw [hr, ha, show allEl P Q [x] = true by simp [allEl, hx]]; rfl

end Go.Proofs.Ytblclghbabhdlaa

