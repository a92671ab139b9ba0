/- Chapter 9, the reference: proofs of openings. -/
import Derived.Test.YtdnofcpobpoehaaComF
import Derived.Test.YtdnofcpobpoehaaComG
import Derived.Deep.RegionHeld3
namespace Go.Proofs.Ytdnofcpobpoehaa
open Go.RowKit
set_option linter.unusedVariables false
set_option linter.unusedSimpArgs false

/-! ### A list of two, of one, in memory -/
def CC (w : World) (b o : Nat) (x y : Int) : Prop := w.cell? ⟨b, o, none⟩ = some (.int .i64 x) ∧ w.cell? ⟨b, o + 1, none⟩ = some (.int .i64 y)
theorem CC.below {w w' : World} {b o : Nat} {x y : Int} (h : CC w b o x y) (hb : Below w.heap.size w w') : CC w' b o x y := by
  have hl := World.block_lt_of_cell? w _ h.1
  exact ⟨by rw [hb.cell (p := ⟨b, o, none⟩) hl]; exact h.1, by rw [hb.cell (p := ⟨b, o + 1, none⟩) hl]; exact h.2⟩
theorem InI.twoC {B : Nat} {w : World} {ad : Option Addr} {n c : Nat} {x y : Int} (h : InI B w (.slice ad n c) [x, y]) : ∃ b o, ad = some ⟨b, o, none⟩ ∧ CC w b o x y := by
  obtain ⟨h1, _⟩ := h.ints
  rcases h1 with h1 | ⟨b, off, rfl, _, h3⟩
  · cases h1
  · exact ⟨b, off, rfl, by have := h3 0 (by simp); simpa using this, by have := h3 1 (by simp); simpa using this⟩
def C1o (w : World) (b o : Nat) (x : Int) : Prop := w.cell? ⟨b, o, none⟩ = some (.int .i64 x)
theorem C1o.below {w w' : World} {b o : Nat} {x : Int} (h : C1o w b o x) (hb : Below w.heap.size w w') : C1o w' b o x := by
  have hl := World.block_lt_of_cell? w _ h
  unfold C1o; rw [hb.cell (p := ⟨b, o, none⟩) hl]; exact h
theorem InI.oneC {B : Nat} {w : World} {ad : Option Addr} {n c : Nat} {x : Int} (h : InI B w (.slice ad n c) [x]) : ∃ b o, ad = some ⟨b, o, none⟩ ∧ C1o w b o x := by
  obtain ⟨h1, _⟩ := h.ints
  rcases h1 with h1 | ⟨b, off, rfl, _, h3⟩
  · cases h1
  · exact ⟨b, off, rfl, by have := h3 0 (by simp); simpa [C1o] using this⟩
theorem len_two {l : List Int} (h : l.length = 2) : ∃ a b, l = [a, b] := by
  match l, h with
  | [a, b], _ => exact ⟨a, b, rfl⟩
theorem o_nn (a m : Int) (h0 : 0 ≤ a) (h1 : a ≤ 9000000000000000000) (h2 : 2 ≤ m) (h3 : m ≤ 2000000000) (w : World) :
    Calls Try.prog 80 #[.int .i64 a, .int .i64 m] w fun e w' => e = .returned (.int .i64 (a % m)) ∧ w = w' := by
  have e1 : a.tmod m = a % m := Int.tmod_eq_emod_of_nonneg h0
  have h4 := Int.emod_nonneg a (show m ≠ 0 by omega)
  have h5 := Int.emod_lt_of_pos a (show 0 < m by omega)
  have hneg : ¬ a % m < 0 := by omega
  have hm0 : m ≠ 0 := by omega
  go_enter Try.func80, Try.ntmps80
  go_wp2
  go_ret
  exact ⟨rfl, rfl⟩
/-- A proof whose lists are owned, in any order in the memory from Q to P. -/
def OwT (Q P : Nat) (w : World) (v : Value) (p : PrD) : Prop := ∃ a b c, v = .agg #[a, b, c] ∧ OwI Q P w a p.c ∧ OwI Q P w b p.h ∧ OwI Q P w c p.r
theorem OwT.toIn {Q P : Nat} {w : World} {v : Value} {p : PrD} (h : OwT Q P w v p) : InP P w v p := by
  obtain ⟨a, b, c, rfl, h1, h2, h3⟩ := h
  exact ⟨a, b, c, rfl, h1.toIn, h2.toIn, h3.toIn⟩
theorem OwT.below {Q P : Nat} {w w' : World} {v : Value} {p : PrD} (h : OwT Q P w v p) (hb : Below w.heap.size w w') : OwT Q P w' v p := by
  obtain ⟨a, b, c, rfl, h1, h2, h3⟩ := h
  exact ⟨a, b, c, rfl, h1.below hb, h2.below hb, h3.below hb⟩
theorem OwT.mid {Q P A B : Nat} {w w' : World} {v : Value} {p : PrD} (h : OwT Q P w v p) (hm : Mid A B w w') (ho : P ≤ A ∨ B ≤ Q) : OwT Q P w' v p := by
  obtain ⟨a, b, c, rfl, h1, h2, h3⟩ := h
  exact ⟨a, b, c, rfl, h1.mid hm ho, h2.mid hm ho, h3.mid hm ho⟩
theorem OwT.le {Q P : Nat} {w : World} {v : Value} {p : PrD} (h : OwT Q P w v p) : P ≤ w.heap.size := h.toIn.le
def AnsJ (w : World) (p : PrD) (ok : Bool) (e : Ending) (w' : World) : Prop := ∃ a b c, e = .returned (.tuple #[.agg #[a, b, c], .bool ok]) ∧ OwT w.heap.size w'.heap.size w' (.agg #[a, b, c]) p ∧ Below w.heap.size w w'
theorem owT_nil {Q : Nat} {w : World} (h : Q ≤ w.heap.size) : OwT Q w.heap.size w (.agg #[.slice none 0 0, .slice none 0 0, .slice none 0 0]) nilP := ⟨_, _, _, rfl, owI_nil _ w h, owI_nil _ w h, owI_nil _ w h⟩

/-! ### The challenge -/
theorem l9Challenge_any (P Q G H c x : Int) (hg : goodB P Q G = true) (hH : elB P Q H = true) (hc : elB P Q c = true) (hx : elB P Q x = true) {y : Value} (w : World) :
    Calls Try.prog 84 #[gv P Q G, .agg #[.int .i64 H, y], .int .i64 c, .int .i64 x] w fun e w' => e = .returned (.int .i64 (chX P Q G opL [H, c, x])) ∧ Below w.heap.size w w' := by
  have hmo := good_mo hg
  have hgr := good_rng hg
  have e1 := el_rng hH
  have e2 := el_rng hc
  have e3 := el_rng hx
  have e4 := el_rng (good_el hg)
  have HD := Lib.hid (show ∀ z ∈ [H, c, x], 0 ≤ z ∧ z ≤ 4611686018427387903 from fun z hz => by
    have := hmo.1
    simp only [List.mem_cons, List.not_mem_nil, or_false] at hz
    rcases hz with rfl | rfl | rfl <;> omega)
  have hG2 : 0 ≤ G ∧ G ≤ 2000000000 := by have := hmo.1; omega
  have hP2 : 0 ≤ P ∧ P ≤ 2000000000 := by have := hmo.1; omega
  have hQ2 := hgr.2.1
  have G_0 := Lib.hid ((gr_at w (w.heap.size) (by simp) P Q G 29).below (ba (w.alloc (.cells #[.int .i64 P, .int .i64 Q, .int .i64 G] 29)) (.cells #[.int .i64 H, y] 31)))
  have V_0 := Lib.hid (d2_at (w.alloc (.cells #[.int .i64 P, .int .i64 Q, .int .i64 G] 29)) (w.heap.size + 1) (by simp) (.int .i64 H) y 31)
  have HB_0 := Lib.hid (show Below w.heap.size w ((w.alloc (.cells #[.int .i64 P, .int .i64 Q, .int .i64 G] 29)).alloc (.cells #[.int .i64 H, y] 31)) from bt (ba _ _) (ba _ _))
  obtain ⟨gG0, gG1, gG2⟩ := G_0.out
  obtain ⟨cV0, cV1⟩ := V_0.out
  clear hg hH hc hx hmo hgr e1 e2 e3 e4
  go_enter Try.func84, Try.ntmps84
  go_wp2_with fail
  refine (hChallenge_any P Q G hP2 hQ2 hG2 opL (by decide) _ 3 3 [H, c, x] rfl (by decide) (fun h => by cases h) HD.out _ (ints_spot _ (w.heap.size + 1 + 1) (by simp) [H, c, x] 3)).mono ?_
  rintro e' v9 ⟨rfl, hb9⟩
  have HB_9 := Lib.hid (bt (bt HB_0.out (ba _ _)) hb9)
  clear hb9
  go_wp2
  go_ret
  exact ⟨rfl, HB_9.out⟩

/-! ### The form -/
def foB (P Q : Int) (p : PrD) (n1 n2 n3 : Int) : Bool := decide ((p.c.length : Int) = n1) && (decide ((p.h.length : Int) = n2) && (decide ((p.r.length : Int) = n3) && (allEl P Q p.c && (allIn p.h 0 (Q - 1) && allIn p.r 0 (Q - 1)))))

theorem inP_h {B : Nat} {w : World} {a1 a2 a3 : Option Addr} {n1 n2 n3 c1 c2 c3 : Nat} {p : PrD} (h : InP B w (pv3 a1 n1 c1 a2 n2 c2 a3 n3 c3) p) : InI B w (.slice a2 n2 c2) p.h := by
  obtain ⟨x, y, z, e, _, h1, _⟩ := h
  simp only [Value.agg.injEq, Array.mk.injEq, List.cons.injEq, and_true] at e
  obtain ⟨rfl, rfl, rfl⟩ := e
  exact h1
theorem inP_r {B : Nat} {w : World} {a1 a2 a3 : Option Addr} {n1 n2 n3 c1 c2 c3 : Nat} {p : PrD} (h : InP B w (pv3 a1 n1 c1 a2 n2 c2 a3 n3 c3) p) : InI B w (.slice a3 n3 c3) p.r := by
  obtain ⟨x, y, z, e, _, _, h1⟩ := h
  simp only [Value.agg.injEq, Array.mk.injEq, List.cons.injEq, and_true] at e
  obtain ⟨rfl, rfl, rfl⟩ := e
  exact h1
theorem inP_c {B : Nat} {w : World} {a1 a2 a3 : Option Addr} {n1 n2 n3 c1 c2 c3 : Nat} {p : PrD} (h : InP B w (pv3 a1 n1 c1 a2 n2 c2 a3 n3 c3) p) : InI B w (.slice a1 n1 c1) p.c := by
  obtain ⟨x, y, z, e, h1, _, _⟩ := h
  simp only [Value.agg.injEq, Array.mk.injEq, List.cons.injEq, and_true] at e
  obtain ⟨rfl, rfl, rfl⟩ := e
  exact h1

set_option maxRecDepth 100000 in
set_option maxHeartbeats 3200000 in
theorem l9Form_any (P Q G n1 n2 n3 : Int) (hg : goodB P Q G = true) {C : Nat} {v : Value} {p : PrD} (hpn : p.n ≤ 1048576) {w : World} (hP : InP C w v p) :
    Calls Try.prog 131 #[gv P Q G, v, .int .i64 n1, .int .i64 n2, .int .i64 n3] w fun e w' => e = .returned (.bool (foB P Q p n1 n2 n3)) ∧ Below w.heap.size w w' := by
  have hmo := good_mo hg
  have hgr := good_rng hg
  obtain ⟨hl1, hl2, hl3⟩ : p.c.length ≤ 1048576 ∧ p.h.length ≤ 1048576 ∧ p.r.length ≤ 1048576 := by unfold PrD.n at hpn; omega
  obtain ⟨a1, c1, a2, c2, a3, c3, rfl, _, _, _⟩ := hP.parts
  have G_9 := Lib.hid (gr_at w (w.heap.size) (by simp) P Q G 29)
  have HB_9 := Lib.hid (show Below w.heap.size w (w.alloc (.cells #[.int .i64 P, .int .i64 Q, .int .i64 G] 29)) from ba _ _)
  have hv := b3_new (w.alloc (.cells #[.int .i64 P, .int .i64 Q, .int .i64 G] 29)) (.slice a1 p.c.length c1) (.slice a2 p.h.length c2) (.slice a3 p.r.length c3) 50
  rw [show (w.alloc (.cells #[.int .i64 P, .int .i64 Q, .int .i64 G] 29)).heap.size = w.heap.size + 1 by simp] at hv
  have X_0 := Lib.hid hv
  have G_0 := Lib.hid (G_9.out.below (ba _ (.cells #[.slice a1 p.c.length c1, .slice a2 p.h.length c2, .slice a3 p.r.length c3] 50)))
  have HB_0 := Lib.hid (bt HB_9.out (ba _ (.cells #[.slice a1 p.c.length c1, .slice a2 p.h.length c2, .slice a3 p.r.length c3] 50)))
  have PP_0 := Lib.hid (hP.below HB_0.out)
  clear hv hP G_9 HB_9 hg hpn
  by_cases h0 : ¬ ((p.c.length : Int) = n1)
  · have B0 : ((p.c.length : Int) == n1) = false := by simpa using h0
    have E1 := Lib.hid (show foB P Q p n1 n2 n3 = false by simp [foB, h0])
    rw [E1.out]
    clear h0
    obtain ⟨gG0, gG1, gG2⟩ := G_0.out
    obtain ⟨bX0, bX1, bX2, _⟩ := X_0.out
    go_enter Try.func131, Try.ntmps131
    go_wp2
    go_ret
    exact ⟨rfl, HB_0.out⟩
  have h0 := Decidable.not_not.1 h0
  have B0 : ((p.c.length : Int) == n1) = true := by simpa using h0
  by_cases h1 : ¬ ((p.h.length : Int) = n2)
  · have B1 : ((p.h.length : Int) == n2) = false := by simpa using h1
    have E1 := Lib.hid (show foB P Q p n1 n2 n3 = false by simp [foB, h0, h1])
    rw [E1.out]
    clear h0 h1
    obtain ⟨gG0, gG1, gG2⟩ := G_0.out
    obtain ⟨bX0, bX1, bX2, _⟩ := X_0.out
    go_enter Try.func131, Try.ntmps131
    go_wp2
    go_ret
    exact ⟨rfl, HB_0.out⟩
  have h1 := Decidable.not_not.1 h1
  have B1 : ((p.h.length : Int) == n2) = true := by simpa using h1
  by_cases h2 : ¬ ((p.r.length : Int) = n3)
  · have B2 : ((p.r.length : Int) == n3) = false := by simpa using h2
    have E1 := Lib.hid (show foB P Q p n1 n2 n3 = false by simp [foB, h0, h1, h2])
    rw [E1.out]
    clear h0 h1 h2
    obtain ⟨gG0, gG1, gG2⟩ := G_0.out
    obtain ⟨bX0, bX1, bX2, _⟩ := X_0.out
    go_enter Try.func131, Try.ntmps131
    go_wp2
    go_ret
    exact ⟨rfl, HB_0.out⟩
  have h2 := Decidable.not_not.1 h2
  have B2 : ((p.r.length : Int) == n3) = true := by simpa using h2
  cases h3 : allEl P Q p.c
  · have K3 := Lib.hid (show allEl P Q p.c = false from h3)
    have E1 := Lib.hid (show foB P Q p n1 n2 n3 = false by simp [foB, h0, h1, h2, h3])
    rw [E1.out]
    clear h0 h1 h2 h3
    obtain ⟨gG0, gG1, gG2⟩ := G_0.out
    obtain ⟨bX0, bX1, bX2, _⟩ := X_0.out
    go_enter Try.func131, Try.ntmps131
    go_wp2_with fail
    refine (gIs_any P Q G hmo a1 p.c.length c1 p.c rfl (by omega) _ ((inP_c PP_0.out).ints).1).mono ?_
    rw [K3.out]
    rintro e v1 ⟨rfl, hb⟩
    have HB_1 := Lib.hid (bt HB_0.out hb)
    have G_1 := Lib.hid (G_0.out.below hb)
    have X_1 := Lib.hid (X_0.out.below hb)
    have PP_1 := Lib.hid (PP_0.out.below hb)
    clear hb gG0 gG1 gG2 bX0 bX1 bX2
    obtain ⟨gG0, gG1, gG2⟩ := G_1.out
    obtain ⟨bX0, bX1, bX2, _⟩ := X_1.out
    go_wp2
    go_ret
    exact ⟨rfl, HB_1.out⟩
  have K3 := Lib.hid (show allEl P Q p.c = true from h3)
  cases h4 : allIn p.h 0 (Q - 1)
  · have K4 := Lib.hid (show allIn p.h 0 (Q - 1) = false from h4)
    have E1 := Lib.hid (show foB P Q p n1 n2 n3 = false by simp [foB, h0, h1, h2, h3, h4])
    rw [E1.out]
    clear h0 h1 h2 h3 h4
    obtain ⟨gG0, gG1, gG2⟩ := G_0.out
    obtain ⟨bX0, bX1, bX2, _⟩ := X_0.out
    go_enter Try.func131, Try.ntmps131
    go_wp2_with fail
    refine (gIs_any P Q G hmo a1 p.c.length c1 p.c rfl (by omega) _ ((inP_c PP_0.out).ints).1).mono ?_
    rw [K3.out]
    rintro e v1 ⟨rfl, hb⟩
    have HB_1 := Lib.hid (bt HB_0.out hb)
    have G_1 := Lib.hid (G_0.out.below hb)
    have X_1 := Lib.hid (X_0.out.below hb)
    have PP_1 := Lib.hid (PP_0.out.below hb)
    clear hb gG0 gG1 gG2 bX0 bX1 bX2
    obtain ⟨gG0, gG1, gG2⟩ := G_1.out
    obtain ⟨bX0, bX1, bX2, _⟩ := X_1.out
    go_wp2_with fail
    refine (gExps_any P Q G ⟨by omega, by omega⟩ a2 p.h.length c2 p.h rfl (by omega) _ ((inP_h PP_1.out).ints).1).mono ?_
    rw [K4.out]
    rintro e v2 ⟨rfl, hb⟩
    have HB_2 := Lib.hid (bt HB_1.out hb)
    have G_2 := Lib.hid (G_1.out.below hb)
    have X_2 := Lib.hid (X_1.out.below hb)
    have PP_2 := Lib.hid (PP_1.out.below hb)
    clear hb gG0 gG1 gG2 bX0 bX1 bX2
    obtain ⟨gG0, gG1, gG2⟩ := G_2.out
    obtain ⟨bX0, bX1, bX2, _⟩ := X_2.out
    go_wp2
    go_ret
    exact ⟨rfl, HB_2.out⟩
  have K4 := Lib.hid (show allIn p.h 0 (Q - 1) = true from h4)
  cases h5 : allIn p.r 0 (Q - 1)
  · have K5 := Lib.hid (show allIn p.r 0 (Q - 1) = false from h5)
    have E1 := Lib.hid (show foB P Q p n1 n2 n3 = false by simp [foB, h0, h1, h2, h3, h4, h5])
    rw [E1.out]
    clear h0 h1 h2 h3 h4 h5
    obtain ⟨gG0, gG1, gG2⟩ := G_0.out
    obtain ⟨bX0, bX1, bX2, _⟩ := X_0.out
    go_enter Try.func131, Try.ntmps131
    go_wp2_with fail
    refine (gIs_any P Q G hmo a1 p.c.length c1 p.c rfl (by omega) _ ((inP_c PP_0.out).ints).1).mono ?_
    rw [K3.out]
    rintro e v1 ⟨rfl, hb⟩
    have HB_1 := Lib.hid (bt HB_0.out hb)
    have G_1 := Lib.hid (G_0.out.below hb)
    have X_1 := Lib.hid (X_0.out.below hb)
    have PP_1 := Lib.hid (PP_0.out.below hb)
    clear hb gG0 gG1 gG2 bX0 bX1 bX2
    obtain ⟨gG0, gG1, gG2⟩ := G_1.out
    obtain ⟨bX0, bX1, bX2, _⟩ := X_1.out
    go_wp2_with fail
    refine (gExps_any P Q G ⟨by omega, by omega⟩ a2 p.h.length c2 p.h rfl (by omega) _ ((inP_h PP_1.out).ints).1).mono ?_
    rw [K4.out]
    rintro e v2 ⟨rfl, hb⟩
    have HB_2 := Lib.hid (bt HB_1.out hb)
    have G_2 := Lib.hid (G_1.out.below hb)
    have X_2 := Lib.hid (X_1.out.below hb)
    have PP_2 := Lib.hid (PP_1.out.below hb)
    clear hb gG0 gG1 gG2 bX0 bX1 bX2
    obtain ⟨gG0, gG1, gG2⟩ := G_2.out
    obtain ⟨bX0, bX1, bX2, _⟩ := X_2.out
    go_wp2_with fail
    refine (gExps_any P Q G ⟨by omega, by omega⟩ a3 p.r.length c3 p.r rfl (by omega) _ ((inP_r PP_2.out).ints).1).mono ?_
    rw [K5.out]
    rintro e v3 ⟨rfl, hb⟩
    have HB_3 := Lib.hid (bt HB_2.out hb)
    have G_3 := Lib.hid (G_2.out.below hb)
    have X_3 := Lib.hid (X_2.out.below hb)
    have PP_3 := Lib.hid (PP_2.out.below hb)
    clear hb gG0 gG1 gG2 bX0 bX1 bX2
    obtain ⟨gG0, gG1, gG2⟩ := G_3.out
    obtain ⟨bX0, bX1, bX2, _⟩ := X_3.out
    go_wp2
    go_ret
    exact ⟨rfl, HB_3.out⟩
  have K5 := Lib.hid (show allIn p.r 0 (Q - 1) = true from h5)
  have E1 := Lib.hid (show foB P Q p n1 n2 n3 = true by simp [foB, h0, h1, h2, h3, h4, h5])
  rw [E1.out]
  clear h0 h1 h2 h3 h4 h5
  obtain ⟨gG0, gG1, gG2⟩ := G_0.out
  obtain ⟨bX0, bX1, bX2, _⟩ := X_0.out
  go_enter Try.func131, Try.ntmps131
  go_wp2_with fail
  refine (gIs_any P Q G hmo a1 p.c.length c1 p.c rfl (by omega) _ ((inP_c PP_0.out).ints).1).mono ?_
  rw [K3.out]
  rintro e v1 ⟨rfl, hb⟩
  have HB_1 := Lib.hid (bt HB_0.out hb)
  have G_1 := Lib.hid (G_0.out.below hb)
  have X_1 := Lib.hid (X_0.out.below hb)
  have PP_1 := Lib.hid (PP_0.out.below hb)
  clear hb gG0 gG1 gG2 bX0 bX1 bX2
  obtain ⟨gG0, gG1, gG2⟩ := G_1.out
  obtain ⟨bX0, bX1, bX2, _⟩ := X_1.out
  go_wp2_with fail
  refine (gExps_any P Q G ⟨by omega, by omega⟩ a2 p.h.length c2 p.h rfl (by omega) _ ((inP_h PP_1.out).ints).1).mono ?_
  rw [K4.out]
  rintro e v2 ⟨rfl, hb⟩
  have HB_2 := Lib.hid (bt HB_1.out hb)
  have G_2 := Lib.hid (G_1.out.below hb)
  have X_2 := Lib.hid (X_1.out.below hb)
  have PP_2 := Lib.hid (PP_1.out.below hb)
  clear hb gG0 gG1 gG2 bX0 bX1 bX2
  obtain ⟨gG0, gG1, gG2⟩ := G_2.out
  obtain ⟨bX0, bX1, bX2, _⟩ := X_2.out
  go_wp2_with fail
  refine (gExps_any P Q G ⟨by omega, by omega⟩ a3 p.r.length c3 p.r rfl (by omega) _ ((inP_r PP_2.out).ints).1).mono ?_
  rw [K5.out]
  rintro e v3 ⟨rfl, hb⟩
  have HB_3 := Lib.hid (bt HB_2.out hb)
  have G_3 := Lib.hid (G_2.out.below hb)
  have X_3 := Lib.hid (X_2.out.below hb)
  have PP_3 := Lib.hid (PP_2.out.below hb)
  clear hb gG0 gG1 gG2 bX0 bX1 bX2
  obtain ⟨gG0, gG1, gG2⟩ := G_3.out
  obtain ⟨bX0, bX1, bX2, _⟩ := X_3.out
  go_wp2
  go_ret
  exact ⟨rfl, HB_3.out⟩

theorem fo_true {P Q : Int} {p : PrD} {n1 n2 n3 : Int} : foB P Q p n1 n2 n3 = true ↔ (p.c.length : Int) = n1 ∧ (p.h.length : Int) = n2 ∧ (p.r.length : Int) = n3 ∧ allEl P Q p.c = true ∧ allIn p.h 0 (Q - 1) = true ∧ allIn p.r 0 (Q - 1) = true := by simp [foB]
theorem sv_form {P Q G H c : Int} {p : PrD} (hg : goodB P Q G = true) (h : foB P Q p 1 1 2 = false) : svE P Q G opL [H, c] [[G, H]] [c] p = false := by
  rw [← Bool.not_eq_true] at h ⊢
  intro hs
  obtain ⟨h1, h2, h3, h4, h5, h6, _⟩ := svE_true.1 hs
  have hQ : 0 < Q := by have := goodB_true.1 hg; omega
  refine h (fo_true.2 ⟨by simp only [List.length_cons, List.length_nil] at h1; omega, by omega, by show (p.r.length : Int) = 2; rw [h3]; rfl, h4, ?_, h5⟩)
  obtain ⟨e, he⟩ := List.length_eq_one_iff.1 h2
  rw [he] at h6 ⊢
  have hx := chX_rng (P := P) (Q := Q) (G := G) (s := opL) (zs := [H, c] ++ p.c) hQ
  simp only [List.headD_cons] at h6
  simp only [allIn, List.all_cons, List.all_nil, Bool.and_true]
  exact inB_true.2 ⟨by omega, by omega⟩
theorem sv_on {P Q G H c x e a b : Int} (hP : 2 ≤ P) (hx : elB P Q x = true) (ha : allIn [a, b] 0 (Q - 1) = true) (x1 : 0 ≤ x ∧ x < P) :
    svE P Q G opL [H, c] [[G, H]] [c] ⟨[x], [e], [a, b]⟩ = (decide (e = chX P Q G opL [H, c, x]) && decide (cmW P G H a b = x * Num.pow c e P % P)) := by
  have hr : rowOk P e [a, b] [[G, H]] [x] [c] = decide (cmW P G H a b = x * Num.pow c e P % P) := by
    show (decide (powsFrom P 1 [G, H] [a, b] = mulFrom P 1 [x, Num.pow c e P]) && true) = _
    rw [Bool.and_true, pows_two hP, mul_two x1.1 x1.2]; rfl
  unfold svE
  show (decide (1 = 1) && (decide (1 = 1) && (decide (2 = 2) && (allEl P Q [x] && (allIn [a, b] 0 (Q - 1) && (decide (e = chX P Q G opL [H, c, x]) && rowOk P e [a, b] [[G, H]] [x] [c])))))) = _
  rw [hr, ha, show allEl P Q [x] = true by simp [allEl, hx]]; rfl

set_option maxRecDepth 100000 in
set_option maxHeartbeats 6400000 in
theorem pOpening_any (P Q G H c : Int) (hg : goodB P Q G = true) (hH : elB P Q H = true) (hc : elB P Q c = true) {B C : Nat} {y v : Value} {hs : List Int} {p : PrD} (hpn : p.n ≤ 1048576) {w : World} (hy : InI B w y hs) (hP : InP C w v p) :
    Calls Try.prog 89 #[gv P Q G, .agg #[.int .i64 H, y], .int .i64 c, v] w fun e w' => e = .returned (.bool (svE P Q G opL [H, c] [[G, H]] [c] p)) ∧ Below w.heap.size w w' := by
  obtain ⟨ya, yc, rfl⟩ := hy.shape
  obtain ⟨a1, c1, a2, c2, a3, c3, rfl, _, _, _⟩ := hP.parts
  have G_9 := Lib.hid ((gr_at w (w.heap.size) (by simp) P Q G 29).below (ba (w.alloc (.cells #[.int .i64 P, .int .i64 Q, .int .i64 G] 29)) (.cells #[.int .i64 H, .slice ya hs.length yc] 31)))
  have V_9 := Lib.hid (d2_at (w.alloc (.cells #[.int .i64 P, .int .i64 Q, .int .i64 G] 29)) (w.heap.size + 1) (by simp) (.int .i64 H) (.slice ya hs.length yc) 31)
  have HB_9 := Lib.hid (show Below w.heap.size w ((w.alloc (.cells #[.int .i64 P, .int .i64 Q, .int .i64 G] 29)).alloc (.cells #[.int .i64 H, .slice ya hs.length yc] 31)) from bt (ba _ _) (ba _ _))
  have hv := b3_new ((w.alloc (.cells #[.int .i64 P, .int .i64 Q, .int .i64 G] 29)).alloc (.cells #[.int .i64 H, .slice ya hs.length yc] 31)) (.slice a1 p.c.length c1) (.slice a2 p.h.length c2) (.slice a3 p.r.length c3) 50
  rw [show ((w.alloc (.cells #[.int .i64 P, .int .i64 Q, .int .i64 G] 29)).alloc (.cells #[.int .i64 H, .slice ya hs.length yc] 31)).heap.size = w.heap.size + 2 by simp] at hv
  have X_0 := Lib.hid hv
  have G_0 := Lib.hid (G_9.out.below (ba _ (.cells #[.slice a1 p.c.length c1, .slice a2 p.h.length c2, .slice a3 p.r.length c3] 50)))
  have V_0 := Lib.hid (V_9.out.below (ba _ (.cells #[.slice a1 p.c.length c1, .slice a2 p.h.length c2, .slice a3 p.r.length c3] 50)))
  have HB_0 := Lib.hid (bt HB_9.out (ba _ (.cells #[.slice a1 p.c.length c1, .slice a2 p.h.length c2, .slice a3 p.r.length c3] 50)))
  have PP_0 := Lib.hid (hP.below HB_0.out)
  clear hv hP hy G_9 V_9 HB_9
  have HG := Lib.hid hg
  cases h0 : foB P Q p 1 1 2
  · have E1 := Lib.hid (sv_form (H := H) (c := c) hg h0)
    rw [E1.out]
    have K0 := Lib.hid h0
    clear h0 hg
    obtain ⟨g0, g1, g2⟩ := G_0.out
    obtain ⟨x0, x1, x2, _⟩ := X_0.out
    go_enter Try.func89, Try.ntmps89
    go_wp2_with fail
    refine (l9Form_any P Q G 1 1 2 HG.out hpn PP_0.out).mono ?_
    rw [K0.out]
    rintro e v1 ⟨rfl, hb⟩
    have HB_1 := Lib.hid (bt HB_0.out hb)
    clear hb
    go_wp2
    go_ret
    exact ⟨rfl, HB_1.out⟩
  have K0 := Lib.hid h0
  obtain ⟨f1, f2, f3, f4, f5, f6⟩ := fo_true.1 h0
  obtain ⟨pc, ph, pr⟩ := p
  simp only at f1 f2 f3 f4 f5 f6 PP_0 X_0 HB_0 G_0 V_0 K0 hpn ⊢
  obtain ⟨x, rfl⟩ := List.length_eq_one_iff.1 (show pc.length = 1 by omega)
  obtain ⟨e, rfl⟩ := List.length_eq_one_iff.1 (show ph.length = 1 by omega)
  obtain ⟨a, b, rfl⟩ := len_two (show pr.length = 2 by omega)
  have hmo := good_mo hg
  have hgr := good_rng hg
  have hx : elB P Q x = true := by simpa [allEl] using f4
  have he := in_single f5
  have hab := in_pair f6
  have hxr := el_rng hx
  have hcr := el_rng hc
  have x1 : 0 ≤ x ∧ x < P := by omega
  rw [sv_on hmo.1.1 hx f6 x1]
  obtain ⟨xb, xo, rfl, hcx⟩ := (inP_c PP_0.out).oneC
  obtain ⟨eb, eo, rfl, hce⟩ := (inP_h PP_0.out).oneC
  obtain ⟨rb, ro, rfl, hcc⟩ := (inP_r PP_0.out).twoC
  have CX_0 := Lib.hid hcx
  have CE_0 := Lib.hid hce
  have CR_0 := Lib.hid hcc
  have HH := Lib.hid hH
  have HC := Lib.hid hc
  have HX := Lib.hid hx
  have HAB := Lib.hid hab
  have HER := Lib.hid he
  have HCR := Lib.hid (show 0 ≤ c ∧ c ≤ 2000000000 by have := hmo.1; omega)
  have HPQ := Lib.hid (And.intro hmo.1 hgr.2.1)
  have hpw := pow_lt c e P hmo.1.1
  have EM0 := mul_two (b := Num.pow c e P) x1.1 x1.2
  have HPP := Lib.hid (show ∀ z ∈ [x, Num.pow c e P], 0 ≤ z ∧ z < P from fun z hz => by
    simp only [List.mem_cons, List.not_mem_nil, or_false] at hz
    rcases hz with rfl | rfl
    · exact x1
    · exact hpw)
  obtain ⟨ch, hch⟩ : ∃ ch, chX P Q G opL [H, c, x] = ch := ⟨_, rfl⟩
  obtain ⟨cm, hcm⟩ : ∃ cm, cmW P G H a b = cm := ⟨_, rfl⟩
  rw [hch, hcm]
  generalize hpe : Num.pow c e P = pw at EM0 HPP ⊢
  obtain ⟨mv, hmv⟩ : ∃ m, x * pw % P = m := ⟨_, rfl⟩
  rw [hmv] at EM0 ⊢
  have HCH := Lib.hid hch
  have HCM := Lib.hid hcm
  have HPW := Lib.hid hpe
  have EM := Lib.hid EM0
  clear hg hH hc h0 f1 f2 f3 f4 f5 f6 hcx hce hcc hx he hab hxr hcr hmo hgr hch hcm hpe hmv EM0 hpw x1
  obtain ⟨W, hW9⟩ : ∃ W, (((w.alloc (.cells #[.int .i64 P, .int .i64 Q, .int .i64 G] 29)).alloc (.cells #[.int .i64 H, .slice ya hs.length yc] 31)).alloc (.cells #[.slice (some ⟨xb, xo, none⟩) [x].length c1, .slice (some ⟨eb, eo, none⟩) [e].length c2, .slice (some ⟨rb, ro, none⟩) [a, b].length c3] 50)) = W := ⟨_, rfl⟩
  rw [hW9] at X_0 PP_0 HB_0 G_0 V_0 CX_0 CE_0 CR_0
  have hW : (((w.alloc (.cells #[.int .i64 P, .int .i64 Q, .int .i64 G] 29)).alloc (.cells #[.int .i64 H, .slice ya hs.length yc] 31)).alloc (.cells #[.slice (some ⟨xb, xo, none⟩) 1 c1, .slice (some ⟨eb, eo, none⟩) 1 c2, .slice (some ⟨rb, ro, none⟩) 2 c3] 50)) = W := hW9
  clear hW9
  have X_0 := Lib.hid (show B3 W (w.heap.size + 2) (.slice (some ⟨xb, xo, none⟩) 1 c1) (.slice (some ⟨eb, eo, none⟩) 1 c2) (.slice (some ⟨rb, ro, none⟩) 2 c3) from X_0.out)
  by_cases hcmp : e = ch
  · have hq : (e == ch) = true := by simp [hcmp]
    rw [decide_eq_true hcmp, Bool.true_and]
    clear hcmp
    obtain ⟨g0, g1, g2⟩ := G_0.out
    obtain ⟨x0, x1, x2, _⟩ := X_0.out
    go_enter Try.func89, Try.ntmps89
    go_wp2_with fail
    refine (l9Form_any P Q G 1 1 2 HG.out hpn PP_0.out).mono ?_
    rw [K0.out]
    rintro e' v1 ⟨rfl, hb⟩
    have HB_1 := Lib.hid (bt HB_0.out hb)
    have G_1 := Lib.hid (G_0.out.below hb)
    have V_1 := Lib.hid (V_0.out.below hb)
    have X_1 := Lib.hid (X_0.out.below hb)
    have CX_1 := Lib.hid (CX_0.out.below hb)
    have CE_1 := Lib.hid (CE_0.out.below hb)
    have CR_1 := Lib.hid (CR_0.out.below hb)
    clear hb g0 g1 g2 x0 x1 x2 hW
    go_wp2_with fail
    have hbd : Below v1.heap.size v1 v1.drew := (Below.refl _ v1).drew
    have HB_s := Lib.hid (bt HB_1.out hbd)
    have G_s := Lib.hid (G_1.out.below hbd)
    have V_s := Lib.hid (V_1.out.below hbd)
    have X_s := Lib.hid (X_1.out.below hbd)
    have CX_s := Lib.hid (CX_1.out.below hbd)
    have CE_s := Lib.hid (CE_1.out.below hbd)
    have CR_s := Lib.hid (CR_1.out.below hbd)
    clear hbd
    refine wp_region_held_drew (S := (fun w' => ((w'.cell? ⟨w.heap.size, 0, none⟩ = some (.int .i64 P) ∧ w'.cell? ⟨w.heap.size, 1, none⟩ = some (.int .i64 Q) ∧ w'.cell? ⟨w.heap.size, 2, none⟩ = some (.int .i64 G)) ∧ (w'.cell? ⟨w.heap.size + 1, 0, none⟩ = some (.int .i64 H) ∧ w'.cell? ⟨w.heap.size + 1, 1, none⟩ = some (.slice ya hs.length yc))) ∧ (w'.cell? ⟨w.heap.size + 2, 0, none⟩ = some (.slice (some ⟨xb, xo, none⟩) 1 c1) ∧ w'.cell? ⟨w.heap.size + 2, 1, none⟩ = some (.slice (some ⟨eb, eo, none⟩) 1 c2) ∧ w'.cell? ⟨w.heap.size + 2, 2, none⟩ = some (.slice (some ⟨rb, ro, none⟩) 2 c3)) ∧ w'.cell? ⟨xb, xo, none⟩ = some (.int .i64 x) ∧ w'.cell? ⟨eb, eo, none⟩ = some (.int .i64 e) ∧ (w'.cell? ⟨rb, ro, none⟩ = some (.int .i64 a) ∧ w'.cell? ⟨rb, ro + 1, none⟩ = some (.int .i64 b)))) (by kernel_rfl) (show _ from ⟨⟨⟨G_1.out.1, G_1.out.2.1, G_1.out.2.2⟩, V_1.out.1, V_1.out.2⟩, ⟨X_1.out.1, X_1.out.2.1, X_1.out.2.2.1⟩, CX_1.out, CE_1.out, CR_1.out.1, CR_1.out.2⟩) (fun hHeld => ?_)
    generalize hW0 : v1.drew = Ws at *
    clear hW0
    refine wpAnyH_take (i := 0) (v := ?_) rfl (by kernel_rfl) (by kernel_rfl) (by kernel_rfl) (fun _ _ _ h => h) (Or.inl ⟨by kernel_rfl, ?_⟩) (by assumption) ?_
    rotate_left 1
    · intro w9 hSw
      try dsimp only at hSw
      go_simp
      try with_reducible rfl
    try simp only [Act.put, List.getElem_toArray, List.getElem_cons_succ, List.getElem_cons_zero, List.setIfInBounds_toArray, List.set_cons_zero, List.set_cons_succ]
    refine wpAnyH_take (i := 1) (v := ?_) rfl (by kernel_rfl) (by kernel_rfl) (by kernel_rfl) (fun _ _ _ h => h) (Or.inl ⟨by kernel_rfl, ?_⟩) (by assumption) ?_
    rotate_left 1
    · intro w9 hSw
      try dsimp only at hSw
      go_simp
      try with_reducible rfl
    try simp only [Act.put, List.getElem_toArray, List.getElem_cons_succ, List.getElem_cons_zero, List.setIfInBounds_toArray, List.set_cons_zero, List.set_cons_succ]
    refine wpAnyH_take (i := 2) (v := ?_) rfl (by kernel_rfl) (by kernel_rfl) (by kernel_rfl) (fun _ _ _ h => h) (Or.inl ⟨by kernel_rfl, ?_⟩) (by assumption) ?_
    rotate_left 1
    · intro w9 hSw
      try dsimp only at hSw
      go_simp
      try with_reducible rfl
    try simp only [Act.put, List.getElem_toArray, List.getElem_cons_succ, List.getElem_cons_zero, List.setIfInBounds_toArray, List.set_cons_zero, List.set_cons_succ]
    refine wpAnyH_take (i := 3) (v := ?_) rfl (by kernel_rfl) (by kernel_rfl) (by kernel_rfl) (fun _ _ _ h => h) (Or.inl ⟨by kernel_rfl, ?_⟩) (by assumption) ?_
    rotate_left 1
    · intro w9 hSw
      try dsimp only at hSw
      go_simp
      try with_reducible rfl
    try simp only [Act.put, List.getElem_toArray, List.getElem_cons_succ, List.getElem_cons_zero, List.setIfInBounds_toArray, List.set_cons_zero, List.set_cons_succ]
    refine wpAnyH_take (i := 4) (v := ?_) rfl (by kernel_rfl) (by kernel_rfl) (by kernel_rfl) (fun _ _ _ h => h) (Or.inl ⟨by kernel_rfl, ?_⟩) (by assumption) ?_
    rotate_left 1
    · intro w9 hSw
      try dsimp only at hSw
      go_simp
      try with_reducible rfl
    try simp only [Act.put, List.getElem_toArray, List.getElem_cons_succ, List.getElem_cons_zero, List.setIfInBounds_toArray, List.set_cons_zero, List.set_cons_succ]
    refine wpAnyH_take (i := 5) (v := ?_) rfl (by kernel_rfl) (by kernel_rfl) (by kernel_rfl) (fun _ _ _ h => h) (Or.inl ⟨by kernel_rfl, ?_⟩) (by assumption) ?_
    rotate_left 1
    · intro w9 hSw
      try dsimp only at hSw
      go_simp
      try with_reducible rfl
    try simp only [Act.put, List.getElem_toArray, List.getElem_cons_succ, List.getElem_cons_zero, List.setIfInBounds_toArray, List.set_cons_zero, List.set_cons_succ]
    refine wpAnyH_take (i := 6) (v := ?_) rfl (by kernel_rfl) (by kernel_rfl) (by kernel_rfl) (fun _ _ _ h => h) (Or.inl ⟨by kernel_rfl, ?_⟩) (by assumption) ?_
    rotate_left 1
    · intro w9 hSw
      try dsimp only at hSw
      go_simp
      try with_reducible rfl
    try simp only [Act.put, List.getElem_toArray, List.getElem_cons_succ, List.getElem_cons_zero, List.setIfInBounds_toArray, List.set_cons_zero, List.set_cons_succ]
    refine wpAnyH_take (i := 7) (v := ?_) rfl (by kernel_rfl) (by kernel_rfl) (by kernel_rfl) (fun _ _ _ h => h) (Or.inl ⟨by kernel_rfl, ?_⟩) (by assumption) ?_
    rotate_left 1
    · intro w9 hSw
      try dsimp only at hSw
      go_simp
      try with_reducible rfl
    try simp only [Act.put, List.getElem_toArray, List.getElem_cons_succ, List.getElem_cons_zero, List.setIfInBounds_toArray, List.set_cons_zero, List.set_cons_succ]
    refine wpAnyH_take (i := 8) (v := ?_) rfl (by kernel_rfl) (by kernel_rfl) (by kernel_rfl) (fun _ _ _ h => h) (Or.inl ⟨by kernel_rfl, ?_⟩) (by assumption) ?_
    rotate_left 1
    · intro w9 hSw
      try dsimp only at hSw
      go_simp
      try with_reducible rfl
    try simp only [Act.put, List.getElem_toArray, List.getElem_cons_succ, List.getElem_cons_zero, List.setIfInBounds_toArray, List.set_cons_zero, List.set_cons_succ]
    refine wpAnyH_take (i := 9) (v := ?_) rfl (by kernel_rfl) (by kernel_rfl) (by kernel_rfl) (fun _ _ _ h => h) (Or.inl ⟨by kernel_rfl, ?_⟩) (by assumption) ?_
    rotate_left 1
    · intro w9 hSw
      try dsimp only at hSw
      go_simp
      try with_reducible rfl
    try simp only [Act.put, List.getElem_toArray, List.getElem_cons_succ, List.getElem_cons_zero, List.setIfInBounds_toArray, List.set_cons_zero, List.set_cons_succ]
    refine wpAnyH_done (by kernel_rfl) ?_ _
    have HB_2 := Lib.hid HB_s.out
    have G_2 := Lib.hid G_s.out
    have V_2 := Lib.hid V_s.out
    have X_2 := Lib.hid X_s.out
    have CX_2 := Lib.hid CX_s.out
    have CE_2 := Lib.hid CE_s.out
    have CR_2 := Lib.hid CR_s.out
    clear HB_s G_s V_s X_s CX_s CE_s CR_s
    go_wp2_with fail
    have hbd : Below Ws.heap.size Ws Ws.drew := (Below.refl _ Ws).drew
    have HB_s := Lib.hid (bt HB_2.out hbd)
    have G_s := Lib.hid (G_2.out.below hbd)
    have V_s := Lib.hid (V_2.out.below hbd)
    have X_s := Lib.hid (X_2.out.below hbd)
    have CX_s := Lib.hid (CX_2.out.below hbd)
    have CE_s := Lib.hid (CE_2.out.below hbd)
    have CR_s := Lib.hid (CR_2.out.below hbd)
    clear hbd
    refine wp_region_held_drew (S := (fun w' => ((w'.cell? ⟨w.heap.size, 0, none⟩ = some (.int .i64 P) ∧ w'.cell? ⟨w.heap.size, 1, none⟩ = some (.int .i64 Q) ∧ w'.cell? ⟨w.heap.size, 2, none⟩ = some (.int .i64 G)) ∧ (w'.cell? ⟨w.heap.size + 1, 0, none⟩ = some (.int .i64 H) ∧ w'.cell? ⟨w.heap.size + 1, 1, none⟩ = some (.slice ya hs.length yc))) ∧ (w'.cell? ⟨w.heap.size + 2, 0, none⟩ = some (.slice (some ⟨xb, xo, none⟩) 1 c1) ∧ w'.cell? ⟨w.heap.size + 2, 1, none⟩ = some (.slice (some ⟨eb, eo, none⟩) 1 c2) ∧ w'.cell? ⟨w.heap.size + 2, 2, none⟩ = some (.slice (some ⟨rb, ro, none⟩) 2 c3)) ∧ w'.cell? ⟨xb, xo, none⟩ = some (.int .i64 x) ∧ w'.cell? ⟨eb, eo, none⟩ = some (.int .i64 e) ∧ (w'.cell? ⟨rb, ro, none⟩ = some (.int .i64 a) ∧ w'.cell? ⟨rb, ro + 1, none⟩ = some (.int .i64 b)))) (by kernel_rfl) (show _ from ⟨⟨⟨G_2.out.1, G_2.out.2.1, G_2.out.2.2⟩, V_2.out.1, V_2.out.2⟩, ⟨X_2.out.1, X_2.out.2.1, X_2.out.2.2.1⟩, CX_2.out, CE_2.out, CR_2.out.1, CR_2.out.2⟩) (fun hHeld => ?_)
    generalize hW0 : Ws.drew = Wt at *
    clear hW0
    refine wpAnyH_take (i := 0) (v := ?_) rfl (by kernel_rfl) (by kernel_rfl) (by kernel_rfl) (fun _ _ _ h => h) (Or.inl ⟨by kernel_rfl, ?_⟩) (by assumption) ?_
    rotate_left 1
    · intro w9 hSw
      try dsimp only at hSw
      go_simp
      try with_reducible rfl
    try simp only [Act.put, List.getElem_toArray, List.getElem_cons_succ, List.getElem_cons_zero, List.setIfInBounds_toArray, List.set_cons_zero, List.set_cons_succ]
    refine wpAnyH_take (i := 1) (v := ?_) rfl (by kernel_rfl) (by kernel_rfl) (by kernel_rfl) (fun _ _ _ h => h) (Or.inl ⟨by kernel_rfl, ?_⟩) (by assumption) ?_
    rotate_left 1
    · intro w9 hSw
      try dsimp only at hSw
      go_simp
      try with_reducible rfl
    try simp only [Act.put, List.getElem_toArray, List.getElem_cons_succ, List.getElem_cons_zero, List.setIfInBounds_toArray, List.set_cons_zero, List.set_cons_succ]
    refine wpAnyH_take (i := 2) (v := ?_) rfl (by kernel_rfl) (by kernel_rfl) (by kernel_rfl) (fun _ _ _ h => h) (Or.inl ⟨by kernel_rfl, ?_⟩) (by assumption) ?_
    rotate_left 1
    · intro w9 hSw
      try dsimp only at hSw
      go_simp
      try with_reducible rfl
    try simp only [Act.put, List.getElem_toArray, List.getElem_cons_succ, List.getElem_cons_zero, List.setIfInBounds_toArray, List.set_cons_zero, List.set_cons_succ]
    refine wpAnyH_take (i := 3) (v := ?_) rfl (by kernel_rfl) (by kernel_rfl) (by kernel_rfl) (fun _ _ _ h => h) (Or.inl ⟨by kernel_rfl, ?_⟩) (by assumption) ?_
    rotate_left 1
    · intro w9 hSw
      try dsimp only at hSw
      go_simp
      try with_reducible rfl
    try simp only [Act.put, List.getElem_toArray, List.getElem_cons_succ, List.getElem_cons_zero, List.setIfInBounds_toArray, List.set_cons_zero, List.set_cons_succ]
    refine wpAnyH_take (i := 4) (v := ?_) rfl (by kernel_rfl) (by kernel_rfl) (by kernel_rfl) (fun _ _ _ h => h) (Or.inl ⟨by kernel_rfl, ?_⟩) (by assumption) ?_
    rotate_left 1
    · intro w9 hSw
      try dsimp only at hSw
      go_simp
      try with_reducible rfl
    try simp only [Act.put, List.getElem_toArray, List.getElem_cons_succ, List.getElem_cons_zero, List.setIfInBounds_toArray, List.set_cons_zero, List.set_cons_succ]
    refine wpAnyH_ready (rs := [5]) (by kernel_rfl) (by simp) ?_
    refine AllReadyH.cons rfl (fun K hK => ?_) (AllReadyH.nil)
    go_simp
    go_at_call 84
    refine (l9Challenge_any P Q G H c x HG.out HH.out HC.out HX.out _).mono ?_
    rw [HCH.out]
    rintro e' Wtf ⟨rfl, hb⟩
    have HB_sf := Lib.hid (bt HB_s.out hb)
    have G_sf := Lib.hid (G_s.out.below hb)
    have V_sf := Lib.hid (V_s.out.below hb)
    have X_sf := Lib.hid (X_s.out.below hb)
    have CX_sf := Lib.hid (CX_s.out.below hb)
    have CE_sf := Lib.hid (CE_s.out.below hb)
    have CR_sf := Lib.hid (CR_s.out.below hb)
    clear hb
    go_wp2_with fail
    refine hK.out _ _ (show _ from ⟨⟨⟨G_sf.out.1, G_sf.out.2.1, G_sf.out.2.2⟩, V_sf.out.1, V_sf.out.2⟩, ⟨X_sf.out.1, X_sf.out.2.1, X_sf.out.2.2.1⟩, CX_sf.out, CE_sf.out, CR_sf.out.1, CR_sf.out.2⟩) (fun hHeld => ?_)
    clear hK K
    try simp only [Act.put, List.getElem_toArray, List.getElem_cons_succ, List.getElem_cons_zero, List.setIfInBounds_toArray, List.set_cons_zero, List.set_cons_succ]
    refine wpAnyH_take (i := 6) (v := ?_) rfl (by kernel_rfl) (by kernel_rfl) (by kernel_rfl) (fun _ _ _ h => h) (Or.inl ⟨by kernel_rfl, ?_⟩) (by assumption) ?_
    rotate_left 1
    · intro w9 hSw
      try dsimp only at hSw
      go_simp
      try with_reducible rfl
    try simp only [Act.put, List.getElem_toArray, List.getElem_cons_succ, List.getElem_cons_zero, List.setIfInBounds_toArray, List.set_cons_zero, List.set_cons_succ]
    refine wpAnyH_take (i := 7) (v := ?_) rfl (by kernel_rfl) (by kernel_rfl) (by kernel_rfl) (fun _ _ _ h => h) (Or.inl ⟨by kernel_rfl, ?_⟩) (by assumption) ?_
    rotate_left 1
    · intro w9 hSw
      try dsimp only at hSw
      go_simp
      try with_reducible rfl
    try simp only [Act.put, List.getElem_toArray, List.getElem_cons_succ, List.getElem_cons_zero, List.setIfInBounds_toArray, List.set_cons_zero, List.set_cons_succ]
    refine wpAnyH_take (i := 8) (v := ?_) rfl (by kernel_rfl) (by kernel_rfl) (by kernel_rfl) (fun _ _ _ h => h) (Or.inl ⟨by kernel_rfl, ?_⟩) (by assumption) ?_
    rotate_left 1
    · intro w9 hSw
      try dsimp only at hSw
      go_simp
      try with_reducible rfl
    try simp only [Act.put, List.getElem_toArray, List.getElem_cons_succ, List.getElem_cons_zero, List.setIfInBounds_toArray, List.set_cons_zero, List.set_cons_succ]
    refine wpAnyH_take (i := 9) (v := ?_) rfl (by kernel_rfl) (by kernel_rfl) (by kernel_rfl) (fun _ _ _ h => h) (Or.inl ⟨by kernel_rfl, ?_⟩) (by assumption) ?_
    rotate_left 1
    · intro w9 hSw
      try dsimp only at hSw
      go_simp
      try with_reducible rfl
    try simp only [Act.put, List.getElem_toArray, List.getElem_cons_succ, List.getElem_cons_zero, List.setIfInBounds_toArray, List.set_cons_zero, List.set_cons_succ]
    refine wpAnyH_take (i := 10) (v := ?_) rfl (by kernel_rfl) (by kernel_rfl) (by kernel_rfl) (fun _ _ _ h => h) (Or.inl ⟨by kernel_rfl, ?_⟩) (by assumption) ?_
    rotate_left 1
    · intro w9 hSw
      try dsimp only at hSw
      go_simp
      try with_reducible rfl
    try simp only [Act.put, List.getElem_toArray, List.getElem_cons_succ, List.getElem_cons_zero, List.setIfInBounds_toArray, List.set_cons_zero, List.set_cons_succ]
    refine wpAnyH_take (i := 11) (v := ?_) rfl (by kernel_rfl) (by kernel_rfl) (by kernel_rfl) (fun _ _ _ h => h) (Or.inl ⟨by kernel_rfl, ?_⟩) (by assumption) ?_
    rotate_left 1
    · intro w9 hSw
      try dsimp only at hSw
      go_simp
      try with_reducible rfl
    try simp only [Act.put, List.getElem_toArray, List.getElem_cons_succ, List.getElem_cons_zero, List.setIfInBounds_toArray, List.set_cons_zero, List.set_cons_succ]
    refine wpAnyH_take (i := 12) (v := ?_) rfl (by kernel_rfl) (by kernel_rfl) (by kernel_rfl) (fun _ _ _ h => h) (Or.inl ⟨by kernel_rfl, ?_⟩) (by assumption) ?_
    rotate_left 1
    · intro w9 hSw
      try dsimp only at hSw
      go_simp
      try with_reducible rfl
    try simp only [Act.put, List.getElem_toArray, List.getElem_cons_succ, List.getElem_cons_zero, List.setIfInBounds_toArray, List.set_cons_zero, List.set_cons_succ]
    refine wpAnyH_take (i := 13) (v := ?_) rfl (by kernel_rfl) (by kernel_rfl) (by kernel_rfl) (fun _ _ _ h => h) (Or.inl ⟨by kernel_rfl, ?_⟩) (by assumption) ?_
    rotate_left 1
    · intro w9 hSw
      try dsimp only at hSw
      go_simp
      try with_reducible rfl
    try simp only [Act.put, List.getElem_toArray, List.getElem_cons_succ, List.getElem_cons_zero, List.setIfInBounds_toArray, List.set_cons_zero, List.set_cons_succ]
    refine wpAnyH_take (i := 14) (v := ?_) rfl (by kernel_rfl) (by kernel_rfl) (by kernel_rfl) (fun _ _ _ h => h) (Or.inl ⟨by kernel_rfl, ?_⟩) (by assumption) ?_
    rotate_left 1
    · intro w9 hSw
      try dsimp only at hSw
      go_simp
      try with_reducible rfl
    try simp only [Act.put, List.getElem_toArray, List.getElem_cons_succ, List.getElem_cons_zero, List.setIfInBounds_toArray, List.set_cons_zero, List.set_cons_succ]
    refine wpAnyH_take (i := 15) (v := ?_) rfl (by kernel_rfl) (by kernel_rfl) (by kernel_rfl) (fun _ _ _ h => h) (Or.inl ⟨by kernel_rfl, ?_⟩) (by assumption) ?_
    rotate_left 1
    · intro w9 hSw
      try dsimp only at hSw
      go_simp
      try with_reducible rfl
    try simp only [Act.put, List.getElem_toArray, List.getElem_cons_succ, List.getElem_cons_zero, List.setIfInBounds_toArray, List.set_cons_zero, List.set_cons_succ]
    refine wpAnyH_take (i := 16) (v := ?_) rfl (by kernel_rfl) (by kernel_rfl) (by kernel_rfl) (fun _ _ _ h => h) (Or.inl ⟨by kernel_rfl, ?_⟩) (by assumption) ?_
    rotate_left 1
    · intro w9 hSw
      try dsimp only at hSw
      go_simp
      try with_reducible rfl
    try simp only [Act.put, List.getElem_toArray, List.getElem_cons_succ, List.getElem_cons_zero, List.setIfInBounds_toArray, List.set_cons_zero, List.set_cons_succ]
    refine wpAnyH_take (i := 17) (v := ?_) rfl (by kernel_rfl) (by kernel_rfl) (by kernel_rfl) (fun _ _ _ h => h) (Or.inl ⟨by kernel_rfl, ?_⟩) (by assumption) ?_
    rotate_left 1
    · intro w9 hSw
      try dsimp only at hSw
      go_simp
      try with_reducible rfl
    try simp only [Act.put, List.getElem_toArray, List.getElem_cons_succ, List.getElem_cons_zero, List.setIfInBounds_toArray, List.set_cons_zero, List.set_cons_succ]
    refine wpAnyH_take (i := 19) (v := ?_) rfl (by kernel_rfl) (by kernel_rfl) (by kernel_rfl) (fun _ _ _ h => h) (Or.inl ⟨by kernel_rfl, ?_⟩) (by assumption) ?_
    rotate_left 1
    · intro w9 hSw
      try dsimp only at hSw
      go_simp
      try with_reducible rfl
    try simp only [Act.put, List.getElem_toArray, List.getElem_cons_succ, List.getElem_cons_zero, List.setIfInBounds_toArray, List.set_cons_zero, List.set_cons_succ]
    refine wpAnyH_take (i := 20) (v := ?_) rfl (by kernel_rfl) (by kernel_rfl) (by kernel_rfl) (fun _ _ _ h => h) (Or.inl ⟨by kernel_rfl, ?_⟩) (by assumption) ?_
    rotate_left 1
    · intro w9 hSw
      try dsimp only at hSw
      go_simp
      try with_reducible rfl
    try simp only [Act.put, List.getElem_toArray, List.getElem_cons_succ, List.getElem_cons_zero, List.setIfInBounds_toArray, List.set_cons_zero, List.set_cons_succ]
    refine wpAnyH_take (i := 21) (v := ?_) rfl (by kernel_rfl) (by kernel_rfl) (by kernel_rfl) (fun _ _ _ h => h) (Or.inl ⟨by kernel_rfl, ?_⟩) (by assumption) ?_
    rotate_left 1
    · intro w9 hSw
      try dsimp only at hSw
      go_simp
      try with_reducible rfl
    try simp only [Act.put, List.getElem_toArray, List.getElem_cons_succ, List.getElem_cons_zero, List.setIfInBounds_toArray, List.set_cons_zero, List.set_cons_succ]
    refine wpAnyH_take (i := 22) (v := ?_) rfl (by kernel_rfl) (by kernel_rfl) (by kernel_rfl) (fun _ _ _ h => h) (Or.inl ⟨by kernel_rfl, ?_⟩) (by assumption) ?_
    rotate_left 1
    · intro w9 hSw
      try dsimp only at hSw
      go_simp
      try with_reducible rfl
    try simp only [Act.put, List.getElem_toArray, List.getElem_cons_succ, List.getElem_cons_zero, List.setIfInBounds_toArray, List.set_cons_zero, List.set_cons_succ]
    refine wpAnyH_take (i := 23) (v := ?_) rfl (by kernel_rfl) (by kernel_rfl) (by kernel_rfl) (fun _ _ _ h => h) (Or.inl ⟨by kernel_rfl, ?_⟩) (by assumption) ?_
    rotate_left 1
    · intro w9 hSw
      try dsimp only at hSw
      go_simp
      try with_reducible rfl
    try simp only [Act.put, List.getElem_toArray, List.getElem_cons_succ, List.getElem_cons_zero, List.setIfInBounds_toArray, List.set_cons_zero, List.set_cons_succ]
    refine wpAnyH_ready (rs := [18]) (by kernel_rfl) (by simp) ?_
    refine AllReadyH.cons rfl (fun K hK => ?_) (AllReadyH.nil)
    go_simp
    go_at_call 71
    refine (pCommit_any P Q G H a b HG.out HH.out HAB.out.1 HAB.out.2 _).mono ?_
    rw [HCM.out]
    rintro e' Wtfs ⟨rfl, hb⟩
    have HB_sfs := Lib.hid (bt HB_sf.out hb)
    have G_sfs := Lib.hid (G_sf.out.below hb)
    have V_sfs := Lib.hid (V_sf.out.below hb)
    have X_sfs := Lib.hid (X_sf.out.below hb)
    have CX_sfs := Lib.hid (CX_sf.out.below hb)
    have CE_sfs := Lib.hid (CE_sf.out.below hb)
    have CR_sfs := Lib.hid (CR_sf.out.below hb)
    clear hb
    go_wp2_with fail
    refine hK.out _ _ (show _ from ⟨⟨⟨G_sfs.out.1, G_sfs.out.2.1, G_sfs.out.2.2⟩, V_sfs.out.1, V_sfs.out.2⟩, ⟨X_sfs.out.1, X_sfs.out.2.1, X_sfs.out.2.2.1⟩, CX_sfs.out, CE_sfs.out, CR_sfs.out.1, CR_sfs.out.2⟩) (fun hHeld => ?_)
    clear hK K
    try simp only [Act.put, List.getElem_toArray, List.getElem_cons_succ, List.getElem_cons_zero, List.setIfInBounds_toArray, List.set_cons_zero, List.set_cons_succ]
    refine wpAnyH_ready (rs := [24]) (by kernel_rfl) (by simp) ?_
    refine AllReadyH.cons rfl (fun K hK => ?_) (AllReadyH.nil)
    go_simp
    go_at_call 119
    refine (gExp_any P Q G c e HCR.out.1 HCR.out.2 HER.out.1 HER.out.2 HPQ.out.1.1 HPQ.out.1.2 HPQ.out.2.1 HPQ.out.2.2 _).mono ?_
    rw [HPW.out]
    rintro e' Wtfsy ⟨rfl, hb⟩
    have HB_sfsy := Lib.hid (bt HB_sfs.out hb)
    have G_sfsy := Lib.hid (G_sfs.out.below hb)
    have V_sfsy := Lib.hid (V_sfs.out.below hb)
    have X_sfsy := Lib.hid (X_sfs.out.below hb)
    have CX_sfsy := Lib.hid (CX_sfs.out.below hb)
    have CE_sfsy := Lib.hid (CE_sfs.out.below hb)
    have CR_sfsy := Lib.hid (CR_sfs.out.below hb)
    clear hb
    go_wp2_with fail
    refine hK.out _ _ (show _ from ⟨⟨⟨G_sfsy.out.1, G_sfsy.out.2.1, G_sfsy.out.2.2⟩, V_sfsy.out.1, V_sfsy.out.2⟩, ⟨X_sfsy.out.1, X_sfsy.out.2.1, X_sfsy.out.2.2.1⟩, CX_sfsy.out, CE_sfsy.out, CR_sfsy.out.1, CR_sfsy.out.2⟩) (fun hHeld => ?_)
    clear hK K
    try simp only [Act.put, List.getElem_toArray, List.getElem_cons_succ, List.getElem_cons_zero, List.setIfInBounds_toArray, List.set_cons_zero, List.set_cons_succ]
    refine wpAnyH_ready (rs := [25]) (by kernel_rfl) (by simp) ?_
    refine AllReadyH.cons rfl (fun K hK => ?_) (AllReadyH.nil)
    go_simp
    have hb := ba Wtfsy (.cells #[.int .i64 x, .int .i64 pw] 3)
    have HB_sfsyz := Lib.hid (bt HB_sfsy.out hb)
    have G_sfsyz := Lib.hid (G_sfsy.out.below hb)
    have V_sfsyz := Lib.hid (V_sfsy.out.below hb)
    have X_sfsyz := Lib.hid (X_sfsy.out.below hb)
    have CX_sfsyz := Lib.hid (CX_sfsy.out.below hb)
    have CE_sfsyz := Lib.hid (CE_sfsy.out.below hb)
    have CR_sfsyz := Lib.hid (CR_sfsy.out.below hb)
    have L_sfsyz := Lib.hid (show IsInts (Wtfsy.alloc (.cells #[.int .i64 x, .int .i64 pw] 3)) (some ⟨Wtfsy.heap.size, 0, none⟩) [x, pw] from ints_spot Wtfsy _ rfl [x, pw] 3)
    clear hb
    refine hK.out _ _ (show _ from ⟨⟨⟨G_sfsyz.out.1, G_sfsyz.out.2.1, G_sfsyz.out.2.2⟩, V_sfsyz.out.1, V_sfsyz.out.2⟩, ⟨X_sfsyz.out.1, X_sfsyz.out.2.1, X_sfsyz.out.2.2.1⟩, CX_sfsyz.out, CE_sfsyz.out, CR_sfsyz.out.1, CR_sfsyz.out.2⟩) (fun hHeld => ?_)
    clear hK K
    try simp only [Act.put, List.getElem_toArray, List.getElem_cons_succ, List.getElem_cons_zero, List.setIfInBounds_toArray, List.set_cons_zero, List.set_cons_succ]
    generalize hW9 : Wtfsy.alloc (.cells #[.int .i64 x, .int .i64 pw] 3) = Wtfsyz at *
    clear hW9
    refine wpAnyH_ready (rs := [26]) (by kernel_rfl) (by simp) ?_
    refine AllReadyH.cons rfl (fun K hK => ?_) (AllReadyH.nil)
    go_simp
    go_at_call 118
    refine (gMul_any P Q G _ 2 2 [x, pw] rfl (by decide) HPQ.out.1.1 HPQ.out.1.2 HPP.out _ L_sfsyz.out).mono ?_
    rw [EM.out]
    rintro e' WtfsyzQ26 ⟨rfl, hb⟩
    have HB_sfsyzQ26 := Lib.hid (bt HB_sfsyz.out hb)
    have G_sfsyzQ26 := Lib.hid (G_sfsyz.out.below hb)
    have V_sfsyzQ26 := Lib.hid (V_sfsyz.out.below hb)
    have X_sfsyzQ26 := Lib.hid (X_sfsyz.out.below hb)
    have CX_sfsyzQ26 := Lib.hid (CX_sfsyz.out.below hb)
    have CE_sfsyzQ26 := Lib.hid (CE_sfsyz.out.below hb)
    have CR_sfsyzQ26 := Lib.hid (CR_sfsyz.out.below hb)
    clear hb
    go_wp2_with fail
    refine hK.out _ _ (show _ from ⟨⟨⟨G_sfsyzQ26.out.1, G_sfsyzQ26.out.2.1, G_sfsyzQ26.out.2.2⟩, V_sfsyzQ26.out.1, V_sfsyzQ26.out.2⟩, ⟨X_sfsyzQ26.out.1, X_sfsyzQ26.out.2.1, X_sfsyzQ26.out.2.2.1⟩, CX_sfsyzQ26.out, CE_sfsyzQ26.out, CR_sfsyzQ26.out.1, CR_sfsyzQ26.out.2⟩) (fun hHeld => ?_)
    clear hK K
    try simp only [Act.put, List.getElem_toArray, List.getElem_cons_succ, List.getElem_cons_zero, List.setIfInBounds_toArray, List.set_cons_zero, List.set_cons_succ]
    refine wpAnyH_take (i := 27) (v := ?_) rfl (by kernel_rfl) (by kernel_rfl) (by kernel_rfl) (fun _ _ _ h => h) (Or.inl ⟨by kernel_rfl, ?_⟩) (by assumption) ?_
    rotate_left 1
    · intro w9 hSw
      try dsimp only at hSw
      go_simp
      try with_reducible rfl
    try simp only [Act.put, List.getElem_toArray, List.getElem_cons_succ, List.getElem_cons_zero, List.setIfInBounds_toArray, List.set_cons_zero, List.set_cons_succ]
    refine wpAnyH_take (i := 28) (v := ?_) rfl (by kernel_rfl) (by kernel_rfl) (by kernel_rfl) (fun _ _ _ h => h) (Or.inl ⟨by kernel_rfl, ?_⟩) (by assumption) ?_
    rotate_left 1
    · intro w9 hSw
      try dsimp only at hSw
      go_simp
      try with_reducible rfl
    try simp only [Act.put, List.getElem_toArray, List.getElem_cons_succ, List.getElem_cons_zero, List.setIfInBounds_toArray, List.set_cons_zero, List.set_cons_succ]
    refine wpAnyH_take (i := 29) (v := ?_) rfl (by kernel_rfl) (by kernel_rfl) (by kernel_rfl) (fun _ _ _ h => h) (Or.inl ⟨by kernel_rfl, ?_⟩) (by assumption) ?_
    rotate_left 1
    · intro w9 hSw
      try dsimp only at hSw
      go_simp
      try with_reducible rfl
    try simp only [Act.put, List.getElem_toArray, List.getElem_cons_succ, List.getElem_cons_zero, List.setIfInBounds_toArray, List.set_cons_zero, List.set_cons_succ]
    refine wpAnyH_done (by kernel_rfl) ?_ _
    go_wp2
    go_ret
    exact ⟨rfl, HB_sfsyzQ26.out⟩
  · have hq : (e == ch) = false := by simpa using hcmp
    rw [decide_eq_false hcmp, Bool.false_and]
    clear hcmp
    obtain ⟨g0, g1, g2⟩ := G_0.out
    obtain ⟨x0, x1, x2, _⟩ := X_0.out
    go_enter Try.func89, Try.ntmps89
    go_wp2_with fail
    refine (l9Form_any P Q G 1 1 2 HG.out hpn PP_0.out).mono ?_
    rw [K0.out]
    rintro e' v1 ⟨rfl, hb⟩
    have HB_1 := Lib.hid (bt HB_0.out hb)
    have G_1 := Lib.hid (G_0.out.below hb)
    have V_1 := Lib.hid (V_0.out.below hb)
    have X_1 := Lib.hid (X_0.out.below hb)
    have CX_1 := Lib.hid (CX_0.out.below hb)
    have CE_1 := Lib.hid (CE_0.out.below hb)
    have CR_1 := Lib.hid (CR_0.out.below hb)
    clear hb g0 g1 g2 x0 x1 x2 hW
    go_wp2_with fail
    have hbd : Below v1.heap.size v1 v1.drew := (Below.refl _ v1).drew
    have HB_s := Lib.hid (bt HB_1.out hbd)
    have G_s := Lib.hid (G_1.out.below hbd)
    have V_s := Lib.hid (V_1.out.below hbd)
    have X_s := Lib.hid (X_1.out.below hbd)
    have CX_s := Lib.hid (CX_1.out.below hbd)
    have CE_s := Lib.hid (CE_1.out.below hbd)
    have CR_s := Lib.hid (CR_1.out.below hbd)
    clear hbd
    refine wp_region_held_drew (S := (fun w' => ((w'.cell? ⟨w.heap.size, 0, none⟩ = some (.int .i64 P) ∧ w'.cell? ⟨w.heap.size, 1, none⟩ = some (.int .i64 Q) ∧ w'.cell? ⟨w.heap.size, 2, none⟩ = some (.int .i64 G)) ∧ (w'.cell? ⟨w.heap.size + 1, 0, none⟩ = some (.int .i64 H) ∧ w'.cell? ⟨w.heap.size + 1, 1, none⟩ = some (.slice ya hs.length yc))) ∧ (w'.cell? ⟨w.heap.size + 2, 0, none⟩ = some (.slice (some ⟨xb, xo, none⟩) 1 c1) ∧ w'.cell? ⟨w.heap.size + 2, 1, none⟩ = some (.slice (some ⟨eb, eo, none⟩) 1 c2) ∧ w'.cell? ⟨w.heap.size + 2, 2, none⟩ = some (.slice (some ⟨rb, ro, none⟩) 2 c3)) ∧ w'.cell? ⟨xb, xo, none⟩ = some (.int .i64 x) ∧ w'.cell? ⟨eb, eo, none⟩ = some (.int .i64 e) ∧ (w'.cell? ⟨rb, ro, none⟩ = some (.int .i64 a) ∧ w'.cell? ⟨rb, ro + 1, none⟩ = some (.int .i64 b)))) (by kernel_rfl) (show _ from ⟨⟨⟨G_1.out.1, G_1.out.2.1, G_1.out.2.2⟩, V_1.out.1, V_1.out.2⟩, ⟨X_1.out.1, X_1.out.2.1, X_1.out.2.2.1⟩, CX_1.out, CE_1.out, CR_1.out.1, CR_1.out.2⟩) (fun hHeld => ?_)
    generalize hW0 : v1.drew = Ws at *
    clear hW0
    refine wpAnyH_take (i := 0) (v := ?_) rfl (by kernel_rfl) (by kernel_rfl) (by kernel_rfl) (fun _ _ _ h => h) (Or.inl ⟨by kernel_rfl, ?_⟩) (by assumption) ?_
    rotate_left 1
    · intro w9 hSw
      try dsimp only at hSw
      go_simp
      try with_reducible rfl
    try simp only [Act.put, List.getElem_toArray, List.getElem_cons_succ, List.getElem_cons_zero, List.setIfInBounds_toArray, List.set_cons_zero, List.set_cons_succ]
    refine wpAnyH_take (i := 1) (v := ?_) rfl (by kernel_rfl) (by kernel_rfl) (by kernel_rfl) (fun _ _ _ h => h) (Or.inl ⟨by kernel_rfl, ?_⟩) (by assumption) ?_
    rotate_left 1
    · intro w9 hSw
      try dsimp only at hSw
      go_simp
      try with_reducible rfl
    try simp only [Act.put, List.getElem_toArray, List.getElem_cons_succ, List.getElem_cons_zero, List.setIfInBounds_toArray, List.set_cons_zero, List.set_cons_succ]
    refine wpAnyH_take (i := 2) (v := ?_) rfl (by kernel_rfl) (by kernel_rfl) (by kernel_rfl) (fun _ _ _ h => h) (Or.inl ⟨by kernel_rfl, ?_⟩) (by assumption) ?_
    rotate_left 1
    · intro w9 hSw
      try dsimp only at hSw
      go_simp
      try with_reducible rfl
    try simp only [Act.put, List.getElem_toArray, List.getElem_cons_succ, List.getElem_cons_zero, List.setIfInBounds_toArray, List.set_cons_zero, List.set_cons_succ]
    refine wpAnyH_take (i := 3) (v := ?_) rfl (by kernel_rfl) (by kernel_rfl) (by kernel_rfl) (fun _ _ _ h => h) (Or.inl ⟨by kernel_rfl, ?_⟩) (by assumption) ?_
    rotate_left 1
    · intro w9 hSw
      try dsimp only at hSw
      go_simp
      try with_reducible rfl
    try simp only [Act.put, List.getElem_toArray, List.getElem_cons_succ, List.getElem_cons_zero, List.setIfInBounds_toArray, List.set_cons_zero, List.set_cons_succ]
    refine wpAnyH_take (i := 4) (v := ?_) rfl (by kernel_rfl) (by kernel_rfl) (by kernel_rfl) (fun _ _ _ h => h) (Or.inl ⟨by kernel_rfl, ?_⟩) (by assumption) ?_
    rotate_left 1
    · intro w9 hSw
      try dsimp only at hSw
      go_simp
      try with_reducible rfl
    try simp only [Act.put, List.getElem_toArray, List.getElem_cons_succ, List.getElem_cons_zero, List.setIfInBounds_toArray, List.set_cons_zero, List.set_cons_succ]
    refine wpAnyH_take (i := 5) (v := ?_) rfl (by kernel_rfl) (by kernel_rfl) (by kernel_rfl) (fun _ _ _ h => h) (Or.inl ⟨by kernel_rfl, ?_⟩) (by assumption) ?_
    rotate_left 1
    · intro w9 hSw
      try dsimp only at hSw
      go_simp
      try with_reducible rfl
    try simp only [Act.put, List.getElem_toArray, List.getElem_cons_succ, List.getElem_cons_zero, List.setIfInBounds_toArray, List.set_cons_zero, List.set_cons_succ]
    refine wpAnyH_take (i := 6) (v := ?_) rfl (by kernel_rfl) (by kernel_rfl) (by kernel_rfl) (fun _ _ _ h => h) (Or.inl ⟨by kernel_rfl, ?_⟩) (by assumption) ?_
    rotate_left 1
    · intro w9 hSw
      try dsimp only at hSw
      go_simp
      try with_reducible rfl
    try simp only [Act.put, List.getElem_toArray, List.getElem_cons_succ, List.getElem_cons_zero, List.setIfInBounds_toArray, List.set_cons_zero, List.set_cons_succ]
    refine wpAnyH_take (i := 7) (v := ?_) rfl (by kernel_rfl) (by kernel_rfl) (by kernel_rfl) (fun _ _ _ h => h) (Or.inl ⟨by kernel_rfl, ?_⟩) (by assumption) ?_
    rotate_left 1
    · intro w9 hSw
      try dsimp only at hSw
      go_simp
      try with_reducible rfl
    try simp only [Act.put, List.getElem_toArray, List.getElem_cons_succ, List.getElem_cons_zero, List.setIfInBounds_toArray, List.set_cons_zero, List.set_cons_succ]
    refine wpAnyH_take (i := 8) (v := ?_) rfl (by kernel_rfl) (by kernel_rfl) (by kernel_rfl) (fun _ _ _ h => h) (Or.inl ⟨by kernel_rfl, ?_⟩) (by assumption) ?_
    rotate_left 1
    · intro w9 hSw
      try dsimp only at hSw
      go_simp
      try with_reducible rfl
    try simp only [Act.put, List.getElem_toArray, List.getElem_cons_succ, List.getElem_cons_zero, List.setIfInBounds_toArray, List.set_cons_zero, List.set_cons_succ]
    refine wpAnyH_take (i := 9) (v := ?_) rfl (by kernel_rfl) (by kernel_rfl) (by kernel_rfl) (fun _ _ _ h => h) (Or.inl ⟨by kernel_rfl, ?_⟩) (by assumption) ?_
    rotate_left 1
    · intro w9 hSw
      try dsimp only at hSw
      go_simp
      try with_reducible rfl
    try simp only [Act.put, List.getElem_toArray, List.getElem_cons_succ, List.getElem_cons_zero, List.setIfInBounds_toArray, List.set_cons_zero, List.set_cons_succ]
    refine wpAnyH_done (by kernel_rfl) ?_ _
    have HB_2 := Lib.hid HB_s.out
    have G_2 := Lib.hid G_s.out
    have V_2 := Lib.hid V_s.out
    have X_2 := Lib.hid X_s.out
    have CX_2 := Lib.hid CX_s.out
    have CE_2 := Lib.hid CE_s.out
    have CR_2 := Lib.hid CR_s.out
    clear HB_s G_s V_s X_s CX_s CE_s CR_s
    go_wp2_with fail
    have hbd : Below Ws.heap.size Ws Ws.drew := (Below.refl _ Ws).drew
    have HB_s := Lib.hid (bt HB_2.out hbd)
    have G_s := Lib.hid (G_2.out.below hbd)
    have V_s := Lib.hid (V_2.out.below hbd)
    have X_s := Lib.hid (X_2.out.below hbd)
    have CX_s := Lib.hid (CX_2.out.below hbd)
    have CE_s := Lib.hid (CE_2.out.below hbd)
    have CR_s := Lib.hid (CR_2.out.below hbd)
    clear hbd
    refine wp_region_held_drew (S := (fun w' => ((w'.cell? ⟨w.heap.size, 0, none⟩ = some (.int .i64 P) ∧ w'.cell? ⟨w.heap.size, 1, none⟩ = some (.int .i64 Q) ∧ w'.cell? ⟨w.heap.size, 2, none⟩ = some (.int .i64 G)) ∧ (w'.cell? ⟨w.heap.size + 1, 0, none⟩ = some (.int .i64 H) ∧ w'.cell? ⟨w.heap.size + 1, 1, none⟩ = some (.slice ya hs.length yc))) ∧ (w'.cell? ⟨w.heap.size + 2, 0, none⟩ = some (.slice (some ⟨xb, xo, none⟩) 1 c1) ∧ w'.cell? ⟨w.heap.size + 2, 1, none⟩ = some (.slice (some ⟨eb, eo, none⟩) 1 c2) ∧ w'.cell? ⟨w.heap.size + 2, 2, none⟩ = some (.slice (some ⟨rb, ro, none⟩) 2 c3)) ∧ w'.cell? ⟨xb, xo, none⟩ = some (.int .i64 x) ∧ w'.cell? ⟨eb, eo, none⟩ = some (.int .i64 e) ∧ (w'.cell? ⟨rb, ro, none⟩ = some (.int .i64 a) ∧ w'.cell? ⟨rb, ro + 1, none⟩ = some (.int .i64 b)))) (by kernel_rfl) (show _ from ⟨⟨⟨G_2.out.1, G_2.out.2.1, G_2.out.2.2⟩, V_2.out.1, V_2.out.2⟩, ⟨X_2.out.1, X_2.out.2.1, X_2.out.2.2.1⟩, CX_2.out, CE_2.out, CR_2.out.1, CR_2.out.2⟩) (fun hHeld => ?_)
    generalize hW0 : Ws.drew = Wt at *
    clear hW0
    refine wpAnyH_take (i := 0) (v := ?_) rfl (by kernel_rfl) (by kernel_rfl) (by kernel_rfl) (fun _ _ _ h => h) (Or.inl ⟨by kernel_rfl, ?_⟩) (by assumption) ?_
    rotate_left 1
    · intro w9 hSw
      try dsimp only at hSw
      go_simp
      try with_reducible rfl
    try simp only [Act.put, List.getElem_toArray, List.getElem_cons_succ, List.getElem_cons_zero, List.setIfInBounds_toArray, List.set_cons_zero, List.set_cons_succ]
    refine wpAnyH_take (i := 1) (v := ?_) rfl (by kernel_rfl) (by kernel_rfl) (by kernel_rfl) (fun _ _ _ h => h) (Or.inl ⟨by kernel_rfl, ?_⟩) (by assumption) ?_
    rotate_left 1
    · intro w9 hSw
      try dsimp only at hSw
      go_simp
      try with_reducible rfl
    try simp only [Act.put, List.getElem_toArray, List.getElem_cons_succ, List.getElem_cons_zero, List.setIfInBounds_toArray, List.set_cons_zero, List.set_cons_succ]
    refine wpAnyH_take (i := 2) (v := ?_) rfl (by kernel_rfl) (by kernel_rfl) (by kernel_rfl) (fun _ _ _ h => h) (Or.inl ⟨by kernel_rfl, ?_⟩) (by assumption) ?_
    rotate_left 1
    · intro w9 hSw
      try dsimp only at hSw
      go_simp
      try with_reducible rfl
    try simp only [Act.put, List.getElem_toArray, List.getElem_cons_succ, List.getElem_cons_zero, List.setIfInBounds_toArray, List.set_cons_zero, List.set_cons_succ]
    refine wpAnyH_take (i := 3) (v := ?_) rfl (by kernel_rfl) (by kernel_rfl) (by kernel_rfl) (fun _ _ _ h => h) (Or.inl ⟨by kernel_rfl, ?_⟩) (by assumption) ?_
    rotate_left 1
    · intro w9 hSw
      try dsimp only at hSw
      go_simp
      try with_reducible rfl
    try simp only [Act.put, List.getElem_toArray, List.getElem_cons_succ, List.getElem_cons_zero, List.setIfInBounds_toArray, List.set_cons_zero, List.set_cons_succ]
    refine wpAnyH_take (i := 4) (v := ?_) rfl (by kernel_rfl) (by kernel_rfl) (by kernel_rfl) (fun _ _ _ h => h) (Or.inl ⟨by kernel_rfl, ?_⟩) (by assumption) ?_
    rotate_left 1
    · intro w9 hSw
      try dsimp only at hSw
      go_simp
      try with_reducible rfl
    try simp only [Act.put, List.getElem_toArray, List.getElem_cons_succ, List.getElem_cons_zero, List.setIfInBounds_toArray, List.set_cons_zero, List.set_cons_succ]
    refine wpAnyH_ready (rs := [5]) (by kernel_rfl) (by simp) ?_
    refine AllReadyH.cons rfl (fun K hK => ?_) (AllReadyH.nil)
    go_simp
    go_at_call 84
    refine (l9Challenge_any P Q G H c x HG.out HH.out HC.out HX.out _).mono ?_
    rw [HCH.out]
    rintro e' Wtf ⟨rfl, hb⟩
    have HB_sf := Lib.hid (bt HB_s.out hb)
    have G_sf := Lib.hid (G_s.out.below hb)
    have V_sf := Lib.hid (V_s.out.below hb)
    have X_sf := Lib.hid (X_s.out.below hb)
    have CX_sf := Lib.hid (CX_s.out.below hb)
    have CE_sf := Lib.hid (CE_s.out.below hb)
    have CR_sf := Lib.hid (CR_s.out.below hb)
    clear hb
    go_wp2_with fail
    refine hK.out _ _ (show _ from ⟨⟨⟨G_sf.out.1, G_sf.out.2.1, G_sf.out.2.2⟩, V_sf.out.1, V_sf.out.2⟩, ⟨X_sf.out.1, X_sf.out.2.1, X_sf.out.2.2.1⟩, CX_sf.out, CE_sf.out, CR_sf.out.1, CR_sf.out.2⟩) (fun hHeld => ?_)
    clear hK K
    try simp only [Act.put, List.getElem_toArray, List.getElem_cons_succ, List.getElem_cons_zero, List.setIfInBounds_toArray, List.set_cons_zero, List.set_cons_succ]
    refine wpAnyH_take (i := 6) (v := ?_) rfl (by kernel_rfl) (by kernel_rfl) (by kernel_rfl) (fun _ _ _ h => h) (Or.inl ⟨by kernel_rfl, ?_⟩) (by assumption) ?_
    rotate_left 1
    · intro w9 hSw
      try dsimp only at hSw
      go_simp
      try with_reducible rfl
    try simp only [Act.put, List.getElem_toArray, List.getElem_cons_succ, List.getElem_cons_zero, List.setIfInBounds_toArray, List.set_cons_zero, List.set_cons_succ]
    refine wpAnyH_take (i := 7) (v := ?_) rfl (by kernel_rfl) (by kernel_rfl) (by kernel_rfl) (fun _ _ _ h => h) (Or.inl ⟨by kernel_rfl, ?_⟩) (by assumption) ?_
    rotate_left 1
    · intro w9 hSw
      try dsimp only at hSw
      go_simp
      try with_reducible rfl
    try simp only [Act.put, List.getElem_toArray, List.getElem_cons_succ, List.getElem_cons_zero, List.setIfInBounds_toArray, List.set_cons_zero, List.set_cons_succ]
    refine wpAnyH_take (i := 8) (v := undef) rfl (by kernel_rfl) (by kernel_rfl) (by kernel_rfl) (fun _ _ _ h => h) (Or.inr ⟨by kernel_rfl, rfl⟩) (by assumption) ?_
    try simp only [Act.put, List.getElem_toArray, List.getElem_cons_succ, List.getElem_cons_zero, List.setIfInBounds_toArray, List.set_cons_zero, List.set_cons_succ]
    refine wpAnyH_take (i := 9) (v := undef) rfl (by kernel_rfl) (by kernel_rfl) (by kernel_rfl) (fun _ _ _ h => h) (Or.inr ⟨by kernel_rfl, rfl⟩) (by assumption) ?_
    try simp only [Act.put, List.getElem_toArray, List.getElem_cons_succ, List.getElem_cons_zero, List.setIfInBounds_toArray, List.set_cons_zero, List.set_cons_succ]
    refine wpAnyH_take (i := 10) (v := undef) rfl (by kernel_rfl) (by kernel_rfl) (by kernel_rfl) (fun _ _ _ h => h) (Or.inr ⟨by kernel_rfl, rfl⟩) (by assumption) ?_
    try simp only [Act.put, List.getElem_toArray, List.getElem_cons_succ, List.getElem_cons_zero, List.setIfInBounds_toArray, List.set_cons_zero, List.set_cons_succ]
    refine wpAnyH_take (i := 11) (v := undef) rfl (by kernel_rfl) (by kernel_rfl) (by kernel_rfl) (fun _ _ _ h => h) (Or.inr ⟨by kernel_rfl, rfl⟩) (by assumption) ?_
    try simp only [Act.put, List.getElem_toArray, List.getElem_cons_succ, List.getElem_cons_zero, List.setIfInBounds_toArray, List.set_cons_zero, List.set_cons_succ]
    refine wpAnyH_take (i := 12) (v := undef) rfl (by kernel_rfl) (by kernel_rfl) (by kernel_rfl) (fun _ _ _ h => h) (Or.inr ⟨by kernel_rfl, rfl⟩) (by assumption) ?_
    try simp only [Act.put, List.getElem_toArray, List.getElem_cons_succ, List.getElem_cons_zero, List.setIfInBounds_toArray, List.set_cons_zero, List.set_cons_succ]
    refine wpAnyH_take (i := 13) (v := undef) rfl (by kernel_rfl) (by kernel_rfl) (by kernel_rfl) (fun _ _ _ h => h) (Or.inr ⟨by kernel_rfl, rfl⟩) (by assumption) ?_
    try simp only [Act.put, List.getElem_toArray, List.getElem_cons_succ, List.getElem_cons_zero, List.setIfInBounds_toArray, List.set_cons_zero, List.set_cons_succ]
    refine wpAnyH_take (i := 14) (v := undef) rfl (by kernel_rfl) (by kernel_rfl) (by kernel_rfl) (fun _ _ _ h => h) (Or.inr ⟨by kernel_rfl, rfl⟩) (by assumption) ?_
    try simp only [Act.put, List.getElem_toArray, List.getElem_cons_succ, List.getElem_cons_zero, List.setIfInBounds_toArray, List.set_cons_zero, List.set_cons_succ]
    refine wpAnyH_take (i := 15) (v := undef) rfl (by kernel_rfl) (by kernel_rfl) (by kernel_rfl) (fun _ _ _ h => h) (Or.inr ⟨by kernel_rfl, rfl⟩) (by assumption) ?_
    try simp only [Act.put, List.getElem_toArray, List.getElem_cons_succ, List.getElem_cons_zero, List.setIfInBounds_toArray, List.set_cons_zero, List.set_cons_succ]
    refine wpAnyH_take (i := 16) (v := undef) rfl (by kernel_rfl) (by kernel_rfl) (by kernel_rfl) (fun _ _ _ h => h) (Or.inr ⟨by kernel_rfl, rfl⟩) (by assumption) ?_
    try simp only [Act.put, List.getElem_toArray, List.getElem_cons_succ, List.getElem_cons_zero, List.setIfInBounds_toArray, List.set_cons_zero, List.set_cons_succ]
    refine wpAnyH_take (i := 17) (v := undef) rfl (by kernel_rfl) (by kernel_rfl) (by kernel_rfl) (fun _ _ _ h => h) (Or.inr ⟨by kernel_rfl, rfl⟩) (by assumption) ?_
    try simp only [Act.put, List.getElem_toArray, List.getElem_cons_succ, List.getElem_cons_zero, List.setIfInBounds_toArray, List.set_cons_zero, List.set_cons_succ]
    refine wpAnyH_take (i := 18) (v := undef) rfl (by kernel_rfl) (by kernel_rfl) (by kernel_rfl) (fun _ _ _ h => h) (Or.inr ⟨by kernel_rfl, rfl⟩) (by assumption) ?_
    try simp only [Act.put, List.getElem_toArray, List.getElem_cons_succ, List.getElem_cons_zero, List.setIfInBounds_toArray, List.set_cons_zero, List.set_cons_succ]
    refine wpAnyH_take (i := 19) (v := undef) rfl (by kernel_rfl) (by kernel_rfl) (by kernel_rfl) (fun _ _ _ h => h) (Or.inr ⟨by kernel_rfl, rfl⟩) (by assumption) ?_
    try simp only [Act.put, List.getElem_toArray, List.getElem_cons_succ, List.getElem_cons_zero, List.setIfInBounds_toArray, List.set_cons_zero, List.set_cons_succ]
    refine wpAnyH_take (i := 20) (v := undef) rfl (by kernel_rfl) (by kernel_rfl) (by kernel_rfl) (fun _ _ _ h => h) (Or.inr ⟨by kernel_rfl, rfl⟩) (by assumption) ?_
    try simp only [Act.put, List.getElem_toArray, List.getElem_cons_succ, List.getElem_cons_zero, List.setIfInBounds_toArray, List.set_cons_zero, List.set_cons_succ]
    refine wpAnyH_take (i := 21) (v := undef) rfl (by kernel_rfl) (by kernel_rfl) (by kernel_rfl) (fun _ _ _ h => h) (Or.inr ⟨by kernel_rfl, rfl⟩) (by assumption) ?_
    try simp only [Act.put, List.getElem_toArray, List.getElem_cons_succ, List.getElem_cons_zero, List.setIfInBounds_toArray, List.set_cons_zero, List.set_cons_succ]
    refine wpAnyH_take (i := 22) (v := undef) rfl (by kernel_rfl) (by kernel_rfl) (by kernel_rfl) (fun _ _ _ h => h) (Or.inr ⟨by kernel_rfl, rfl⟩) (by assumption) ?_
    try simp only [Act.put, List.getElem_toArray, List.getElem_cons_succ, List.getElem_cons_zero, List.setIfInBounds_toArray, List.set_cons_zero, List.set_cons_succ]
    refine wpAnyH_take (i := 23) (v := undef) rfl (by kernel_rfl) (by kernel_rfl) (by kernel_rfl) (fun _ _ _ h => h) (Or.inr ⟨by kernel_rfl, rfl⟩) (by assumption) ?_
    try simp only [Act.put, List.getElem_toArray, List.getElem_cons_succ, List.getElem_cons_zero, List.setIfInBounds_toArray, List.set_cons_zero, List.set_cons_succ]
    refine wpAnyH_take (i := 24) (v := undef) rfl (by kernel_rfl) (by kernel_rfl) (by kernel_rfl) (fun _ _ _ h => h) (Or.inr ⟨by kernel_rfl, rfl⟩) (by assumption) ?_
    try simp only [Act.put, List.getElem_toArray, List.getElem_cons_succ, List.getElem_cons_zero, List.setIfInBounds_toArray, List.set_cons_zero, List.set_cons_succ]
    refine wpAnyH_take (i := 25) (v := undef) rfl (by kernel_rfl) (by kernel_rfl) (by kernel_rfl) (fun _ _ _ h => h) (Or.inr ⟨by kernel_rfl, rfl⟩) (by assumption) ?_
    try simp only [Act.put, List.getElem_toArray, List.getElem_cons_succ, List.getElem_cons_zero, List.setIfInBounds_toArray, List.set_cons_zero, List.set_cons_succ]
    refine wpAnyH_take (i := 26) (v := undef) rfl (by kernel_rfl) (by kernel_rfl) (by kernel_rfl) (fun _ _ _ h => h) (Or.inr ⟨by kernel_rfl, rfl⟩) (by assumption) ?_
    try simp only [Act.put, List.getElem_toArray, List.getElem_cons_succ, List.getElem_cons_zero, List.setIfInBounds_toArray, List.set_cons_zero, List.set_cons_succ]
    refine wpAnyH_take (i := 27) (v := undef) rfl (by kernel_rfl) (by kernel_rfl) (by kernel_rfl) (fun _ _ _ h => h) (Or.inr ⟨by kernel_rfl, rfl⟩) (by assumption) ?_
    try simp only [Act.put, List.getElem_toArray, List.getElem_cons_succ, List.getElem_cons_zero, List.setIfInBounds_toArray, List.set_cons_zero, List.set_cons_succ]
    refine wpAnyH_take (i := 28) (v := ?_) rfl (by kernel_rfl) (by kernel_rfl) (by kernel_rfl) (fun _ _ _ h => h) (Or.inl ⟨by kernel_rfl, ?_⟩) (by assumption) ?_
    rotate_left 1
    · intro w9 hSw
      try dsimp only at hSw
      go_simp
      try with_reducible rfl
    try simp only [Act.put, List.getElem_toArray, List.getElem_cons_succ, List.getElem_cons_zero, List.setIfInBounds_toArray, List.set_cons_zero, List.set_cons_succ]
    refine wpAnyH_take (i := 29) (v := ?_) rfl (by kernel_rfl) (by kernel_rfl) (by kernel_rfl) (fun _ _ _ h => h) (Or.inl ⟨by kernel_rfl, ?_⟩) (by assumption) ?_
    rotate_left 1
    · intro w9 hSw
      try dsimp only at hSw
      go_simp
      try with_reducible rfl
    try simp only [Act.put, List.getElem_toArray, List.getElem_cons_succ, List.getElem_cons_zero, List.setIfInBounds_toArray, List.set_cons_zero, List.set_cons_succ]
    refine wpAnyH_done (by kernel_rfl) ?_ _
    go_wp2
    go_ret
    exact ⟨rfl, HB_sf.out⟩

set_option maxRecDepth 100000 in
set_option maxHeartbeats 3200000 in
theorem sVerifyOpening_any (P Q G H c : Int) {B C : Nat} {y v : Value} {hs : List Int} {p : PrD} (hl : hs.length ≤ 1048576) (hpn : p.n ≤ 1048576) {w : World} (hy : InI B w y hs) (hP : InP C w v p) :
    Calls Try.prog 41 #[gv P Q G, .agg #[.int .i64 H, y], .int .i64 c, v] w fun e w' => e = .returned (.tuple #[.bool (voV P Q G H hs c p), .bool (voB P Q G H hs c)]) ∧ Below w.heap.size w w' := by
  obtain ⟨ya, yc, rfl⟩ := hy.shape
  obtain ⟨a1, c1, a2, c2, a3, c3, rfl, _, _, _⟩ := hP.parts
  have G_9 := Lib.hid ((gr_at w (w.heap.size) (by simp) P Q G 29).below (ba (w.alloc (.cells #[.int .i64 P, .int .i64 Q, .int .i64 G] 29)) (.cells #[.int .i64 H, .slice ya hs.length yc] 31)))
  have V_9 := Lib.hid (d2_at (w.alloc (.cells #[.int .i64 P, .int .i64 Q, .int .i64 G] 29)) (w.heap.size + 1) (by simp) (.int .i64 H) (.slice ya hs.length yc) 31)
  have HB_9 := Lib.hid (show Below w.heap.size w ((w.alloc (.cells #[.int .i64 P, .int .i64 Q, .int .i64 G] 29)).alloc (.cells #[.int .i64 H, .slice ya hs.length yc] 31)) from bt (ba _ _) (ba _ _))
  have hv := b3_new ((w.alloc (.cells #[.int .i64 P, .int .i64 Q, .int .i64 G] 29)).alloc (.cells #[.int .i64 H, .slice ya hs.length yc] 31)) (.slice a1 p.c.length c1) (.slice a2 p.h.length c2) (.slice a3 p.r.length c3) 50
  rw [show ((w.alloc (.cells #[.int .i64 P, .int .i64 Q, .int .i64 G] 29)).alloc (.cells #[.int .i64 H, .slice ya hs.length yc] 31)).heap.size = w.heap.size + 2 by simp] at hv
  have X_0 := Lib.hid hv
  have G_0 := Lib.hid (G_9.out.below (ba _ (.cells #[.slice a1 p.c.length c1, .slice a2 p.h.length c2, .slice a3 p.r.length c3] 50)))
  have V_0 := Lib.hid (V_9.out.below (ba _ (.cells #[.slice a1 p.c.length c1, .slice a2 p.h.length c2, .slice a3 p.r.length c3] 50)))
  have HB_0 := Lib.hid (bt HB_9.out (ba _ (.cells #[.slice a1 p.c.length c1, .slice a2 p.h.length c2, .slice a3 p.r.length c3] 50)))
  have Y_0 := Lib.hid (hy.below HB_0.out)
  have PP_0 := Lib.hid (hP.below HB_0.out)
  clear hv hP hy G_9 V_9 HB_9
  cases h0 : bsB P Q G H hs
  · have K0 := Lib.hid (show bsB P Q G H hs = false from h0)
    have E1 := Lib.hid (show voB P Q G H hs c = false by simp [voB, ← el_list1, h0])
    have E2 := Lib.hid (show voV P Q G H hs c p = false by simp only [voV, E1.out, Bool.false_and])
    rw [E1.out, E2.out]
    clear h0
    obtain ⟨gG0, gG1, gG2⟩ := G_0.out
    obtain ⟨bX0, bX1, bX2, _⟩ := X_0.out
    obtain ⟨cV0, cV1⟩ := V_0.out
    go_enter Try.func41, Try.ntmps41
    go_wp2_with fail
    refine (l9Good_any P Q G H (by omega) Y_0.out).mono ?_
    rw [K0.out]
    rintro e v1 ⟨rfl, hb⟩
    have HB_1 := Lib.hid (bt HB_0.out hb)
    have G_1 := Lib.hid (G_0.out.below hb)
    have V_1 := Lib.hid (V_0.out.below hb)
    have X_1 := Lib.hid (X_0.out.below hb)
    have Y_1 := Lib.hid (Y_0.out.below hb)
    have PP_1 := Lib.hid (PP_0.out.below hb)
    clear hb gG0 gG1 gG2 bX0 bX1 bX2 cV0 cV1
    obtain ⟨gG0, gG1, gG2⟩ := G_1.out
    obtain ⟨bX0, bX1, bX2, _⟩ := X_1.out
    obtain ⟨cV0, cV1⟩ := V_1.out
    go_wp2
    go_ret2
    exact ⟨rfl, HB_1.out⟩
  have K0 := Lib.hid (show bsB P Q G H hs = true from h0)
  have hgd := bs_good h0
  have hmo := good_mo hgd
  have hH0 := bs_H h0
  cases h1 : allEl P Q [c]
  · have K1 := Lib.hid (show allEl P Q [c] = false from h1)
    have E1 := Lib.hid (show voB P Q G H hs c = false by simp [voB, ← el_list1, h0, h1])
    have E2 := Lib.hid (show voV P Q G H hs c p = false by simp only [voV, E1.out, Bool.false_and])
    rw [E1.out, E2.out]
    clear h0 h1
    obtain ⟨gG0, gG1, gG2⟩ := G_0.out
    obtain ⟨bX0, bX1, bX2, _⟩ := X_0.out
    obtain ⟨cV0, cV1⟩ := V_0.out
    go_enter Try.func41, Try.ntmps41
    go_wp2_with fail
    refine (l9Good_any P Q G H (by omega) Y_0.out).mono ?_
    rw [K0.out]
    rintro e v1 ⟨rfl, hb⟩
    have HB_1 := Lib.hid (bt HB_0.out hb)
    have G_1 := Lib.hid (G_0.out.below hb)
    have V_1 := Lib.hid (V_0.out.below hb)
    have X_1 := Lib.hid (X_0.out.below hb)
    have Y_1 := Lib.hid (Y_0.out.below hb)
    have PP_1 := Lib.hid (PP_0.out.below hb)
    clear hb gG0 gG1 gG2 bX0 bX1 bX2 cV0 cV1
    obtain ⟨gG0, gG1, gG2⟩ := G_1.out
    obtain ⟨bX0, bX1, bX2, _⟩ := X_1.out
    obtain ⟨cV0, cV1⟩ := V_1.out
    go_wp2_with fail
    refine (gIs_any P Q G hmo _ 1 1 [c] rfl (by decide) _ (ints_lit v1 [c] 3)).mono ?_
    rw [K1.out]
    rintro e v2 ⟨rfl, hb0⟩
    have hb := bt (ba v1 _) hb0
    clear hb0
    have HB_2 := Lib.hid (bt HB_1.out hb)
    have G_2 := Lib.hid (G_1.out.below hb)
    have V_2 := Lib.hid (V_1.out.below hb)
    have X_2 := Lib.hid (X_1.out.below hb)
    have Y_2 := Lib.hid (Y_1.out.below hb)
    have PP_2 := Lib.hid (PP_1.out.below hb)
    clear hb gG0 gG1 gG2 bX0 bX1 bX2 cV0 cV1
    obtain ⟨gG0, gG1, gG2⟩ := G_2.out
    obtain ⟨bX0, bX1, bX2, _⟩ := X_2.out
    obtain ⟨cV0, cV1⟩ := V_2.out
    go_wp2
    go_ret2
    exact ⟨rfl, HB_2.out⟩
  have K1 := Lib.hid (show allEl P Q [c] = true from h1)
  have E1 := Lib.hid (show voB P Q G H hs c = true by simp [voB, ← el_list1, h0, h1])
  rw [E1.out]
  have hce : elB P Q c = true := by rw [← el_list1]; exact h1
  have E2 := Lib.hid (vo_ref (p := p) E1.out)
  rw [E2.out]
  have HG := Lib.hid hgd
  have HH := Lib.hid hH0
  have HCE := Lib.hid hce
  clear h0 h1 hgd hH0 hce
  obtain ⟨gG0, gG1, gG2⟩ := G_0.out
  obtain ⟨bX0, bX1, bX2, _⟩ := X_0.out
  obtain ⟨cV0, cV1⟩ := V_0.out
  go_enter Try.func41, Try.ntmps41
  go_wp2_with fail
  refine (l9Good_any P Q G H (by omega) Y_0.out).mono ?_
  rw [K0.out]
  rintro e v1 ⟨rfl, hb⟩
  have HB_1 := Lib.hid (bt HB_0.out hb)
  have G_1 := Lib.hid (G_0.out.below hb)
  have V_1 := Lib.hid (V_0.out.below hb)
  have X_1 := Lib.hid (X_0.out.below hb)
  have Y_1 := Lib.hid (Y_0.out.below hb)
  have PP_1 := Lib.hid (PP_0.out.below hb)
  clear hb gG0 gG1 gG2 bX0 bX1 bX2 cV0 cV1
  obtain ⟨gG0, gG1, gG2⟩ := G_1.out
  obtain ⟨bX0, bX1, bX2, _⟩ := X_1.out
  obtain ⟨cV0, cV1⟩ := V_1.out
  go_wp2_with fail
  refine (gIs_any P Q G hmo _ 1 1 [c] rfl (by decide) _ (ints_lit v1 [c] 3)).mono ?_
  rw [K1.out]
  rintro e v2 ⟨rfl, hb0⟩
  have hb := bt (ba v1 _) hb0
  clear hb0
  have HB_2 := Lib.hid (bt HB_1.out hb)
  have G_2 := Lib.hid (G_1.out.below hb)
  have V_2 := Lib.hid (V_1.out.below hb)
  have X_2 := Lib.hid (X_1.out.below hb)
  have Y_2 := Lib.hid (Y_1.out.below hb)
  have PP_2 := Lib.hid (PP_1.out.below hb)
  clear hb gG0 gG1 gG2 bX0 bX1 bX2 cV0 cV1
  obtain ⟨gG0, gG1, gG2⟩ := G_2.out
  obtain ⟨bX0, bX1, bX2, _⟩ := X_2.out
  obtain ⟨cV0, cV1⟩ := V_2.out
  go_wp2_with fail
  refine (pOpening_any P Q G H c HG.out HH.out HCE.out hpn Y_2.out PP_2.out).mono ?_
  rintro e' v9 ⟨rfl, hb9⟩
  have HB_9 := Lib.hid (bt HB_2.out hb9)
  clear hb9
  go_wp2
  go_ret2
  exact ⟨rfl, HB_9.out⟩

end Go.Proofs.Ytdnofcpobpoehaa

