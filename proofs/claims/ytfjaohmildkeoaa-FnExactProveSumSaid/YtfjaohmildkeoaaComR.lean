/- Chapter 9, the reference: proofs of openings. -/
import Derived.Test.YtfjaohmildkeoaaComF
import Derived.Test.YtfjaohmildkeoaaComG
import Derived.Deep.RegionHeld3
namespace Go.Proofs.Ytfjaohmildkeoaa
open Go.RowKit
set_option linter.unusedVariables false
set_option linter.unusedSimpArgs false

/-! ### A list of two, of one, in memory -/
def CC (w : World) (b o : Nat) (x y : Int) : Prop := w.cell? ⟨b, o, none⟩ = some (.int .i64 x) ∧ w.cell? ⟨b, o + 1, none⟩ = some (.int .i64 y)
theorem CC.below {w w' : World} {b o : Nat} {x y : Int} (h : CC w b o x y) (hb : Below w.heap.size w w') : CC w' b o x y := by
  have hl := World.block_lt_of_cell? w _ h.1
  exact ⟨by rw [hb.cell (p := ⟨b, o, none⟩) hl]; exact h.1, by rw [hb.cell (p := ⟨b, o + 1, none⟩) hl]; exact h.2⟩
theorem InI.twoC {B : Nat} {w : World} {ad : Option Addr} {n c : Nat} {x y : Int} (h : InI B w (.slice ad n c) [x, y]) : ∃ b o, ad = some ⟨b, o, none⟩ ∧ CC w b o x y := by
  obtain ⟨h1, _⟩ := h.ints
  rcases h1 with h1 | ⟨b, off, rfl, _, h3⟩
  · cases h1
  · exact ⟨b, off, rfl, by have := h3 0 (by simp); simpa using this, by have := h3 1 (by simp); simpa using this⟩
def C1o (w : World) (b o : Nat) (x : Int) : Prop := w.cell? ⟨b, o, none⟩ = some (.int .i64 x)
theorem C1o.below {w w' : World} {b o : Nat} {x : Int} (h : C1o w b o x) (hb : Below w.heap.size w w') : C1o w' b o x := by
  have hl := World.block_lt_of_cell? w _ h
  unfold C1o; rw [hb.cell (p := ⟨b, o, none⟩) hl]; exact h
theorem InI.oneC {B : Nat} {w : World} {ad : Option Addr} {n c : Nat} {x : Int} (h : InI B w (.slice ad n c) [x]) : ∃ b o, ad = some ⟨b, o, none⟩ ∧ C1o w b o x := by
  obtain ⟨h1, _⟩ := h.ints
  rcases h1 with h1 | ⟨b, off, rfl, _, h3⟩
  · cases h1
  · exact ⟨b, off, rfl, by have := h3 0 (by simp); simpa [C1o] using this⟩
theorem len_two {l : List Int} (h : l.length = 2) : ∃ a b, l = [a, b] := by
  match l, h with
  | [a, b], _ => exact ⟨a, b, rfl⟩
theorem o_nn (a m : Int) (h0 : 0 ≤ a) (h1 : a ≤ 9000000000000000000) (h2 : 2 ≤ m) (h3 : m ≤ 2000000000) (w : World) :
    Calls Try.prog 94 #[.int .i64 a, .int .i64 m] w fun e w' => e = .returned (.int .i64 (a % m)) ∧ w = w' := by
  have e1 : a.tmod m = a % m := Int.tmod_eq_emod_of_nonneg h0
  have h4 := Int.emod_nonneg a (show m ≠ 0 by omega)
  have h5 := Int.emod_lt_of_pos a (show 0 < m by omega)
  have hneg : ¬ a % m < 0 := by omega
  have hm0 : m ≠ 0 := by omega
  go_enter Try.func94, Try.ntmps94
  go_wp2
  go_ret
  exact ⟨rfl, rfl⟩
/-- A proof whose lists are owned, in any order in the memory from Q to P. -/
def OwT (Q P : Nat) (w : World) (v : Value) (p : PrD) : Prop := ∃ a b c, v = .agg #[a, b, c] ∧ OwI Q P w a p.c ∧ OwI Q P w b p.h ∧ OwI Q P w c p.r
theorem OwT.toIn {Q P : Nat} {w : World} {v : Value} {p : PrD} (h : OwT Q P w v p) : InP P w v p := by
  obtain ⟨a, b, c, rfl, h1, h2, h3⟩ := h
  exact ⟨a, b, c, rfl, h1.toIn, h2.toIn, h3.toIn⟩
theorem OwT.below {Q P : Nat} {w w' : World} {v : Value} {p : PrD} (h : OwT Q P w v p) (hb : Below w.heap.size w w') : OwT Q P w' v p := by
  obtain ⟨a, b, c, rfl, h1, h2, h3⟩ := h
  exact ⟨a, b, c, rfl, h1.below hb, h2.below hb, h3.below hb⟩
theorem OwT.mid {Q P A B : Nat} {w w' : World} {v : Value} {p : PrD} (h : OwT Q P w v p) (hm : Mid A B w w') (ho : P ≤ A ∨ B ≤ Q) : OwT Q P w' v p := by
  obtain ⟨a, b, c, rfl, h1, h2, h3⟩ := h
  exact ⟨a, b, c, rfl, h1.mid hm ho, h2.mid hm ho, h3.mid hm ho⟩
theorem OwT.le {Q P : Nat} {w : World} {v : Value} {p : PrD} (h : OwT Q P w v p) : P ≤ w.heap.size := h.toIn.le
def AnsJ (w : World) (p : PrD) (ok : Bool) (e : Ending) (w' : World) : Prop := ∃ a b c, e = .returned (.tuple #[.agg #[a, b, c], .bool ok]) ∧ OwT w.heap.size w'.heap.size w' (.agg #[a, b, c]) p ∧ Below w.heap.size w w'
theorem owT_nil {Q : Nat} {w : World} (h : Q ≤ w.heap.size) : OwT Q w.heap.size w (.agg #[.slice none 0 0, .slice none 0 0, .slice none 0 0]) nilP := ⟨_, _, _, rfl, owI_nil _ w h, owI_nil _ w h, owI_nil _ w h⟩

/-! ### The challenge -/
/-! ### The form -/
def foB (P Q : Int) (p : PrD) (n1 n2 n3 : Int) : Bool := decide ((p.c.length : Int) = n1) && (decide ((p.h.length : Int) = n2) && (decide ((p.r.length : Int) = n3) && (allEl P Q p.c && (allIn p.h 0 (Q - 1) && allIn p.r 0 (Q - 1)))))

theorem inP_h {B : Nat} {w : World} {a1 a2 a3 : Option Addr} {n1 n2 n3 c1 c2 c3 : Nat} {p : PrD} (h : InP B w (pv3 a1 n1 c1 a2 n2 c2 a3 n3 c3) p) : InI B w (.slice a2 n2 c2) p.h := by
  obtain ⟨x, y, z, e, _, h1, _⟩ := h
  simp only [Value.agg.injEq, Array.mk.injEq, List.cons.injEq, and_true] at e
  obtain ⟨rfl, rfl, rfl⟩ := e
  exact h1
theorem inP_r {B : Nat} {w : World} {a1 a2 a3 : Option Addr} {n1 n2 n3 c1 c2 c3 : Nat} {p : PrD} (h : InP B w (pv3 a1 n1 c1 a2 n2 c2 a3 n3 c3) p) : InI B w (.slice a3 n3 c3) p.r := by
  obtain ⟨x, y, z, e, _, _, h1⟩ := h
  simp only [Value.agg.injEq, Array.mk.injEq, List.cons.injEq, and_true] at e
  obtain ⟨rfl, rfl, rfl⟩ := e
  exact h1
theorem inP_c {B : Nat} {w : World} {a1 a2 a3 : Option Addr} {n1 n2 n3 c1 c2 c3 : Nat} {p : PrD} (h : InP B w (pv3 a1 n1 c1 a2 n2 c2 a3 n3 c3) p) : InI B w (.slice a1 n1 c1) p.c := by
  obtain ⟨x, y, z, e, h1, _, _⟩ := h
  simp only [Value.agg.injEq, Array.mk.injEq, List.cons.injEq, and_true] at e
  obtain ⟨rfl, rfl, rfl⟩ := e
  exact h1

theorem fo_true {P Q : Int} {p : PrD} {n1 n2 n3 : Int} : foB P Q p n1 n2 n3 = true ↔ (p.c.length : Int) = n1 ∧ (p.h.length : Int) = n2 ∧ (p.r.length : Int) = n3 ∧ allEl P Q p.c = true ∧ allIn p.h 0 (Q - 1) = true ∧ allIn p.r 0 (Q - 1) = true := by simp [foB]
theorem sv_form {P Q G H c : Int} {p : PrD} (hg : goodB P Q G = true) (h : foB P Q p 1 1 2 = false) : svE P Q G opL [H, c] [[G, H]] [c] p = false := by
  rw [← Bool.not_eq_true] at h ⊢
  intro hs
  obtain ⟨h1, h2, h3, h4, h5, h6, _⟩ := svE_true.1 hs
  have hQ : 0 < Q := by have := goodB_true.1 hg; omega
  refine h (fo_true.2 ⟨by simp only [List.length_cons, List.length_nil] at h1; omega, by omega, by show (p.r.length : Int) = 2; rw [h3]; rfl, h4, ?_, h5⟩)
  obtain ⟨e, he⟩ := List.length_eq_one_iff.1 h2
  rw [he] at h6 ⊢
  have hx := chX_rng (P := P) (Q := Q) (G := G) (s := opL) (zs := [H, c] ++ p.c) hQ
  simp only [List.headD_cons] at h6
  simp only [allIn, List.all_cons, List.all_nil, Bool.and_true]
  exact inB_true.2 ⟨by omega, by omega⟩
theorem sv_on {P Q G H c x e a b : Int} (hP : 2 ≤ P) (hx : elB P Q x = true) (ha : allIn [a, b] 0 (Q - 1) = true) (x1 : 0 ≤ x ∧ x < P) :
    svE P Q G opL [H, c] [[G, H]] [c] ⟨[x], [e], [a, b]⟩ = (decide (e = chX P Q G opL [H, c, x]) && decide (cmW P G H a b = x * Num.pow c e P % P)) := by
  have hr : rowOk P e [a, b] [[G, H]] [x] [c] = decide (cmW P G H a b = x * Num.pow c e P % P) := by
    show (decide (powsFrom P 1 [G, H] [a, b] = mulFrom P 1 [x, Num.pow c e P]) && true) = _
    rw [Bool.and_true, pows_two hP, mul_two x1.1 x1.2]; rfl
  unfold svE
  show (decide (1 = 1) && (decide (1 = 1) && (decide (2 = 2) && (allEl P Q [x] && (allIn [a, b] 0 (Q - 1) && (decide (e = chX P Q G opL [H, c, x]) && rowOk P e [a, b] [[G, H]] [x] [c])))))) = _
  rw [hr, ha, show allEl P Q [x] = true by simp [allEl, hx]]; rfl

end Go.Proofs.Ytfjaohmildkeoaa

