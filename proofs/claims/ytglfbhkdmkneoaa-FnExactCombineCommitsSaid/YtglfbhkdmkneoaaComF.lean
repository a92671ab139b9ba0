/- Plain words for commitments, and where bases and their makers lie. -/
import Derived.Test.YtglfbhkdmkneoaaElF
import Derived.Test.YtglfbhkdmkneoaaElA
import Derived.Test.YtglfbhkdmkneoaaTyI
namespace Go.Proofs.Ytglfbhkdmkneoaa
open Go.RowKit
set_option linter.unusedVariables false
set_option linter.unusedSimpArgs false

/-! ### Bases, commitments -/
def baB (P Q x : Int) : Bool := decide (x ≠ 1) && elB P Q x
def basB (P Q : Int) (zs : List Int) : Bool := decide (zs.length ≤ 24) && zs.all fun z => baB P Q z
def bsB (P Q G H : Int) (hs : List Int) : Bool := goodB P Q G && (baB P Q H && basB P Q hs)
theorem bs_true {P Q G H : Int} {hs : List Int} : bsB P Q G H hs = true ↔ goodB P Q G = true ∧ (H ≠ 1 ∧ elB P Q H = true) ∧ hs.length ≤ 24 ∧ ∀ z ∈ hs, z ≠ 1 ∧ elB P Q z = true := by
  simp [bsB, baB, basB]
theorem bs_good {P Q G H : Int} {hs : List Int} (h : bsB P Q G H hs = true) : goodB P Q G = true := (bs_true.1 h).1
theorem bs_H {P Q G H : Int} {hs : List Int} (h : bsB P Q G H hs = true) : elB P Q H = true := (bs_true.1 h).2.1.2
theorem bs_all {P Q G H : Int} {hs : List Int} (h : bsB P Q G H hs = true) : allEl P Q hs = true := by
  unfold allEl; rw [List.all_eq_true]; exact fun z hz => ((bs_true.1 h).2.2.2 z hz).2
def mpB (P Q G H : Int) (hs us xs : List Int) : Bool := bsB P Q G H hs && powsOk P Q us xs
def mpV (P Q G H : Int) (hs us xs : List Int) : Int := if mpB P Q G H hs us xs then powsFrom P 1 us xs else 0
def cmW (P G H m r : Int) : Int := Num.pow G m P * Num.pow H r P % P
def cmB (P Q G H : Int) (hs : List Int) (m r : Int) : Bool := bsB P Q G H hs && allIn [m, r] 0 (Q - 1)
def cmV (P Q G H : Int) (hs : List Int) (m r : Int) : Int := if cmB P Q G H hs m r then cmW P G H m r else 0
theorem pows_two {P a b x y : Int} (hP : 2 ≤ P) : powsFrom P 1 [a, b] [x, y] = Num.pow a x P * Num.pow b y P % P := by
  have h := pow_lt a x P hP
  show 1 * Num.pow a x P % P * Num.pow b y P % P = _
  rw [Int.one_mul, Int.emod_eq_of_lt h.1 h.2]
theorem mp_two (P Q G H m r : Int) (hs : List Int) : mpV P Q G H hs [G, H] [m, r] = cmV P Q G H hs m r ∧ mpB P Q G H hs [G, H] [m, r] = cmB P Q G H hs m r := by
  have e : mpB P Q G H hs [G, H] [m, r] = cmB P Q G H hs m r := by
    unfold mpB cmB
    cases h : bsB P Q G H hs
    · rfl
    · rw [powsOk_all P Q [G, H] [m, r] rfl, show allEl P Q [G, H] = true by simp [allEl, good_el (bs_good h), bs_H h]]; rfl
  refine ⟨?_, e⟩
  unfold mpV cmV
  rw [e]
  cases h : cmB P Q G H hs m r
  · rfl
  · have hb : bsB P Q G H hs = true := by unfold cmB at h; rw [Bool.and_eq_true] at h; exact h.1
    simp only [if_true]
    exact pows_two (good_mo (bs_good hb)).1.1

theorem cm_bs {P Q G H : Int} {hs : List Int} {m r : Int} (h : cmB P Q G H hs m r = true) : bsB P Q G H hs = true := by
  unfold cmB at h; rw [Bool.and_eq_true] at h; exact h.1
/-- Commitments to lists. -/
def cvB (P Q G H : Int) (hs l : List Int) (r : Int) : Bool := bsB P Q G H hs && (decide (l.length ≤ hs.length) && allIn (r :: l) 0 (Q - 1))
def cvW (P H : Int) (hs l : List Int) (r : Int) : Int := powsFrom P 1 (H :: hs.take l.length) (r :: l)
def cvV (P Q G H : Int) (hs l : List Int) (r : Int) : Int := if cvB P Q G H hs l r then cvW P H hs l r else 0
theorem cv_bs {P Q G H : Int} {hs l : List Int} {r : Int} (h : cvB P Q G H hs l r = true) : bsB P Q G H hs = true := by
  unfold cvB at h; rw [Bool.and_eq_true] at h; exact h.1
theorem all_take {P Q : Int} {zs : List Int} (h : allEl P Q zs = true) (k : Nat) : allEl P Q (zs.take k) = true := by
  unfold allEl at *
  rw [List.all_eq_true] at *
  exact fun z hz => h z (List.mem_of_mem_take hz)
theorem mp_vec (P Q G H : Int) (hs l : List Int) (r : Int) (hl : l.length ≤ hs.length) : mpV P Q G H hs ([H] ++ hs.take l.length) ([r] ++ l) = cvV P Q G H hs l r ∧ mpB P Q G H hs ([H] ++ hs.take l.length) ([r] ++ l) = cvB P Q G H hs l r := by
  have e : mpB P Q G H hs ([H] ++ hs.take l.length) ([r] ++ l) = cvB P Q G H hs l r := by
    unfold mpB cvB
    cases h : bsB P Q G H hs
    · rfl
    · have ha : allEl P Q (H :: hs.take l.length) = true := by
        have h1 := all_take (bs_all h) l.length
        unfold allEl at h1 ⊢
        rw [List.all_cons, bs_H h, h1]; rfl
      rw [List.singleton_append, List.singleton_append, powsOk_all P Q (H :: hs.take l.length) (r :: l) (by simp; omega), ha, decide_eq_true hl]
  refine ⟨?_, e⟩
  unfold mpV cvV
  rw [e]
  rfl
/-- Whether an element is the commitment. -/
def coB (P Q c : Int) (b : Bool) : Bool := b && elB P Q c
def coV (P Q c : Int) (b : Bool) (v : Int) : Bool := coB P Q c b && decide (c = v)
theorem InI.cap {B : Nat} {w : World} {ad : Option Addr} {n cap : Nat} {zs : List Int} (h : InI B w (.slice ad n cap) zs) : zs.length ≤ cap := by
  obtain ⟨h0, ad', cap', h1, h2, h3, h4⟩ := h
  simp only [Value.slice.injEq] at h1
  obtain ⟨_, _, rfl⟩ := h1
  exact h4

/-! ### Where they lie -/
def D2 (w : World) (b : Nat) (x y : Value) : Prop := w.cell? ⟨b, 0, none⟩ = some x ∧ w.cell? ⟨b, 1, none⟩ = some y
theorem d2_at (w : World) (b : Nat) (hb : w.heap.size = b) (x y : Value) (t : TypeId) : D2 (w.alloc (.cells #[x, y] t)) b x y := by
  subst hb; exact ⟨World.cell?_alloc_at _ _ _ _ rfl, World.cell?_alloc_at _ _ _ _ rfl⟩
theorem D2.lt {w : World} {b : Nat} {x y : Value} (h : D2 w b x y) : b < w.heap.size := World.block_lt_of_cell? w _ h.1
theorem D2.below {w w' : World} {b : Nat} {x y : Value} (h : D2 w b x y) (hb : Below w.heap.size w w') : D2 w' b x y := by
  have hl := h.lt
  exact ⟨by rw [hb.cell (p := ⟨b, 0, none⟩) hl]; exact h.1, by rw [hb.cell (p := ⟨b, 1, none⟩) hl]; exact h.2⟩
theorem D2.drew {w : World} {b : Nat} {x y : Value} (h : D2 w b x y) : D2 w.drew b x y := h
def D5 (w : World) (b : Nat) (P Q G H : Int) (y : Value) : Prop := GR w b P Q G ∧ w.cell? ⟨b, 3, none⟩ = some (.int .i64 H) ∧ w.cell? ⟨b, 4, none⟩ = some y
theorem d5_at (w : World) (b : Nat) (hb : w.heap.size = b) (P Q G H : Int) (y : Value) (t : TypeId) : D5 (w.alloc (.cells #[.int .i64 P, .int .i64 Q, .int .i64 G, .int .i64 H, y] t)) b P Q G H y := by
  subst hb
  exact ⟨⟨World.cell?_alloc_at _ _ _ _ rfl, World.cell?_alloc_at _ _ _ _ rfl, World.cell?_alloc_at _ _ _ _ rfl⟩, World.cell?_alloc_at _ _ _ _ rfl, World.cell?_alloc_at _ _ _ _ rfl⟩
theorem D5.below {w w' : World} {b : Nat} {P Q G H : Int} {y : Value} (h : D5 w b P Q G H y) (hb : Below w.heap.size w w') : D5 w' b P Q G H y := by
  have hl := h.1.lt
  exact ⟨h.1.below hb, by rw [hb.cell (p := ⟨b, 3, none⟩) hl]; exact h.2.1, by rw [hb.cell (p := ⟨b, 4, none⟩) hl]; exact h.2.2⟩
theorem D5.drew {w : World} {b : Nat} {P Q G H : Int} {y : Value} (h : D5 w b P Q G H y) : D5 w.drew b P Q G H y := h
theorem inI_at (w : World) (b : Nat) (hb : w.heap.size = b) (zs : List Int) (t : TypeId) : InI (w.alloc (.cells (zs.map (Value.int .i64)).toArray t)).heap.size (w.alloc (.cells (zs.map (Value.int .i64)).toArray t)) (.slice (some ⟨b, 0, none⟩) zs.length zs.length) zs := by
  subst hb
  exact InI.of (ints_spot w _ rfl zs t) (fun h => by cases h) (Nat.le_refl _)

end Go.Proofs.Ytglfbhkdmkneoaa

