/- Chapter 12: answers, mended dealings, qualified dealers: plain facts; lists of dealings as they grow. -/
import Derived.Test.YtchlnkdlnfjijaaDkC
import Derived.Test.YtchlnkdlnfjijaaDkT
import Derived.Deep.AppendLies
namespace Go.Proofs.Ytchlnkdlnfjijaa
open Go.RowKit
set_option linter.unusedVariables false
set_option linter.unusedSimpArgs false

def kaB (P Q G : Int) (ds : List DlD) (av : List (List Int)) : Bool := kiB P Q G ds && (decide (av.length = ds.length) && av.all fun a => shsB Q a)
theorem ka_facts {P Q G : Int} {ds : List DlD} {av : List (List Int)} (h : kaB P Q G ds av = true) : kiB P Q G ds = true ∧ av.length = ds.length ∧ ∀ a ∈ av, a.length ≤ 7 ∧ ∀ z ∈ a, 0 ≤ z ∧ z < Q := by
  simp only [kaB, Bool.and_eq_true, List.all_eq_true, decide_eq_true_eq] at h
  obtain ⟨h1, h2, h3⟩ := h
  refine ⟨h1, h2, fun a ha => ?_⟩
  obtain ⟨h4, h5⟩ := shsB_true.1 (h3 a ha)
  exact ⟨h4, allIn_res7 h5⟩
/-- The answers fit, one after another. -/
def fitsL (P Q G : Int) (cs : List Int) : List Int → List Int → Bool
  | i :: is, x :: xs => fitB P Q G cs i x && fitsL P Q G cs is xs
  | _, _ => true
/-- The shares with the answers in their places. -/
def putL : List Int → List Int → List Int → List Int
  | s, i :: is, x :: xs => putL (s.set (i - 1).toNat x) is xs
  | s, _, _ => s
theorem putL_length : ∀ (s is xs : List Int), (putL s is xs).length = s.length
  | s, [], xs => by cases xs <;> rfl
  | s, i :: is, [] => rfl
  | s, i :: is, x :: xs => by simp [putL, putL_length]
def badL (P Q G : Int) (d : DlD) : List Int := bdL P Q G d.c d.s d.s.length
def mdB (P Q G : Int) (d : DlD) (own : List Int) : Bool := decide ((badL P Q G d).length < d.c.length) && (decide (own.length = (badL P Q G d).length) && fitsL P Q G d.c (badL P Q G d) own)
def mdV (P Q G : Int) (d : DlD) (own : List Int) : DlD := ⟨d.c, putL d.s (badL P Q G d) own⟩
theorem mdB_true {P Q G : Int} {d : DlD} {own : List Int} : mdB P Q G d own = true ↔ (badL P Q G d).length < d.c.length ∧ own.length = (badL P Q G d).length ∧ fitsL P Q G d.c (badL P Q G d) own = true := by simp [mdB]
theorem bdL_range (P Q G : Int) (cs ss : List Int) : ∀ n, ∀ z ∈ bdL P Q G cs ss n, 1 ≤ z ∧ z ≤ (n : Int)
  | 0, z, hz => by simp [bdL] at hz
  | n + 1, z, hz => by
    rw [bdL] at hz
    split at hz
    · have := bdL_range P Q G cs ss n z hz
      omega
    · rw [List.mem_append, List.mem_singleton] at hz
      rcases hz with hz | hz
      · have := bdL_range P Q G cs ss n z hz
        omega
      · omega
theorem badL_range {P Q G : Int} {d : DlD} {z : Int} (hz : z ∈ badL P Q G d) : 1 ≤ z ∧ z ≤ (d.s.length : Int) := bdL_range P Q G d.c d.s _ z hz
theorem badL_le (P Q G : Int) (d : DlD) : (badL P Q G d).length ≤ d.s.length := bdL_le P Q G d.c d.s _
/-- The numbers of the qualified among the first k dealers, and their dealings. -/
def quL (P Q G : Int) (ds : List DlD) (av : List (List Int)) : Nat → List Int
  | 0 => []
  | k + 1 => if mdB P Q G (ds.getD k nilD) (av.getD k []) then quL P Q G ds av k ++ [(k : Int) + 1] else quL P Q G ds av k
def qdL (P Q G : Int) (ds : List DlD) (av : List (List Int)) : Nat → List DlD
  | 0 => []
  | k + 1 => if mdB P Q G (ds.getD k nilD) (av.getD k []) then qdL P Q G ds av k ++ [mdV P Q G (ds.getD k nilD) (av.getD k [])] else qdL P Q G ds av k
theorem quL_length (P Q G : Int) (ds : List DlD) (av : List (List Int)) : ∀ k, (quL P Q G ds av k).length = (qdL P Q G ds av k).length ∧ (quL P Q G ds av k).length ≤ k
  | 0 => by simp [quL, qdL]
  | k + 1 => by
    have := quL_length P Q G ds av k
    rw [quL, qdL]
    split
    · simp; omega
    · omega
theorem qu_on {P Q G : Int} {ds : List DlD} {av : List (List Int)} {k : Nat} {d : DlD} {own : List Int} (hd : ds.getD k nilD = d) (ho : av.getD k [] = own) (h : mdB P Q G d own = true) : quL P Q G ds av (k + 1) = quL P Q G ds av k ++ [(k : Int) + 1] ∧ qdL P Q G ds av (k + 1) = qdL P Q G ds av k ++ [mdV P Q G d own] := by
  subst hd ho
  rw [quL, qdL, h]; exact ⟨rfl, rfl⟩
theorem qu_off {P Q G : Int} {ds : List DlD} {av : List (List Int)} {k : Nat} {d : DlD} {own : List Int} (hd : ds.getD k nilD = d) (ho : av.getD k [] = own) (h : mdB P Q G d own = false) : quL P Q G ds av (k + 1) = quL P Q G ds av k ∧ qdL P Q G ds av (k + 1) = qdL P Q G ds av k := by
  subst hd ho
  rw [quL, qdL, h]; exact ⟨rfl, rfl⟩
/-- One answer more. -/
theorem fits_step {P Q G : Int} {cs bad own : List Int} {j : Nat} {i x : Int} (hb : bad.drop j = i :: bad.drop (j + 1)) (ho : own.drop j = x :: own.drop (j + 1)) : fitsL P Q G cs (bad.drop j) (own.drop j) = (fitB P Q G cs i x && fitsL P Q G cs (bad.drop (j + 1)) (own.drop (j + 1))) := by rw [hb, ho]; rfl
theorem put_step {cur bad own : List Int} {j : Nat} {i x : Int} (hb : bad.drop j = i :: bad.drop (j + 1)) (ho : own.drop j = x :: own.drop (j + 1)) : putL cur (bad.drop j) (own.drop j) = putL (cur.set (i - 1).toNat x) (bad.drop (j + 1)) (own.drop (j + 1)) := by rw [hb, ho]; rfl
theorem fits_end {P Q G : Int} {cs bad own : List Int} {j : Nat} (hb : bad.length ≤ j) : fitsL P Q G cs (bad.drop j) (own.drop j) = true := by rw [List.drop_of_length_le hb]; cases own.drop j <;> rfl
theorem put_end {cur bad own : List Int} {j : Nat} (hb : bad.length ≤ j) : putL cur (bad.drop j) (own.drop j) = cur := by rw [List.drop_of_length_le hb]; cases own.drop j <;> rfl
theorem getD_drop {α : Type} {l : List α} {k : Nat} {x z : α} (h : l.drop k = x :: l.drop (k + 1)) : l.getD k z = x := by
  have h1 : (l.drop k)[0]? = some x := by rw [h]; rfl
  rw [List.getElem?_drop, Nat.add_zero] at h1
  rw [List.getD_eq_getElem?_getD, h1]; rfl

/-! ### Lists that lie apart from rows that still grow -/
/-- The list is read, and its block is none of those of X. -/
def InX (X : Nat → Prop) (w : World) (v : Value) (zs : List Int) : Prop := ∃ ad cap, v = .slice ad zs.length cap ∧ (ad = none → cap = 0) ∧ zs.length ≤ cap ∧ (zs = [] ∨ ∃ b off, ad = some ⟨b, off, none⟩ ∧ ¬ X b ∧ b < w.heap.size ∧ ∀ i, i < zs.length → w.cell? ⟨b, off + i, none⟩ = some (.int .i64 (zs.getD i 0)))
theorem InX.toIn {X : Nat → Prop} {w : World} {v : Value} {zs : List Int} (h : InX X w v zs) : InI w.heap.size w v zs := by
  obtain ⟨ad, cap, rfl, h1, h2, h3⟩ := h
  refine ⟨Nat.le_refl _, ad, cap, rfl, ?_, h1, h2⟩
  rcases h3 with h3 | ⟨b, off, h4, _, h5, h6⟩
  · exact .inl h3
  · exact .inr ⟨b, off, h4, h5, h5, h6⟩
theorem InX.of {X : Nat → Prop} {P : Nat} {w : World} {v : Value} {zs : List Int} (h : InI P w v zs) (hX : ∀ b, X b → P ≤ b) : InX X w v zs := by
  obtain ⟨_, ad, cap, rfl, h3, h1, h2⟩ := h
  refine ⟨ad, cap, rfl, h1, h2, ?_⟩
  rcases h3 with h3 | ⟨b, off, h4, h5, h6, h7⟩
  · exact .inl h3
  · exact .inr ⟨b, off, h4, fun hx => by have := hX b hx; omega, h6, h7⟩
theorem InX.ofOw {X : Nat → Prop} {Q P : Nat} {w : World} {v : Value} {zs : List Int} (h : OwI Q P w v zs) (hX : ∀ b, X b → b < Q ∨ P ≤ b) : InX X w v zs := by
  obtain ⟨va, vc, rfl⟩ := own_shape h.1
  obtain ⟨hi, hn, hnil⟩ := own_ints h.1
  refine ⟨va, vc, rfl, hnil, own_cap h.1, ?_⟩
  rcases hi with hi | ⟨b, off, rfl, hb, hc⟩
  · exact .inl hi
  · refine .inr ⟨b, off, rfl, fun hx => ?_, hb, hc⟩
    have l1 := (h.1.lt b rfl).1
    have l2 := h.2.1 b rfl
    have := hX b hx
    omega
theorem InX.below {X : Nat → Prop} {w w' : World} {v : Value} {zs : List Int} (h : InX X w v zs) (hb : Below w.heap.size w w') : InX X w' v zs := by
  obtain ⟨ad, cap, rfl, h1, h2, h3⟩ := h
  refine ⟨ad, cap, rfl, h1, h2, ?_⟩
  rcases h3 with h3 | ⟨b, off, h4, h5, h6, h7⟩
  · exact .inl h3
  · exact .inr ⟨b, off, h4, h5, Nat.lt_of_lt_of_le h6 hb.size, fun i hi => by rw [hb.cell (p := ⟨b, off + i, none⟩) h6]; exact h7 i hi⟩
theorem InX.grown {X X' : Nat → Prop} {w w' : World} {o : Option Nat} {v : Value} {zs : List Int} (h : InX X w v zs) (hg : w.grownBy w' o) (ho : ∀ k, o = some k → X k) (hX : ∀ k, X' k → X k ∨ w.heap.size ≤ k) : InX X' w' v zs := by
  obtain ⟨ad, cap, rfl, h1, h2, h3⟩ := h
  refine ⟨ad, cap, rfl, h1, h2, ?_⟩
  rcases h3 with h3 | ⟨b, off, h4, h5, h6, h7⟩
  · exact .inl h3
  · have hne : some b ≠ o := fun e => h5 (ho b e.symm)
    refine .inr ⟨b, off, h4, fun hx => ?_, Nat.lt_of_lt_of_le h6 hg.size, fun i hi => ?_⟩
    · rcases hX b hx with h | h
      · exact h5 h
      · omega
    · rw [hg.cell_far ⟨b, off + i, none⟩ h6 hne]; exact h7 i hi
/-- The dealings' lists lie in the values vs, two by two. -/
def ElX (X : Nat → Prop) (w : World) (vs : List Value) (ds : List DlD) : Prop := ∀ (i : Nat) d, ds[i]? = some d → ∃ x y, vs[i * 2]? = some x ∧ vs[i * 2 + 1]? = some y ∧ InX X w x d.c ∧ InX X w y d.s
theorem ElX.below {X : Nat → Prop} {w w' : World} {vs : List Value} {ds : List DlD} (h : ElX X w vs ds) (hb : Below w.heap.size w w') : ElX X w' vs ds := fun i d hd => by
  obtain ⟨x, y, h1, h2, h3, h4⟩ := h i d hd
  exact ⟨x, y, h1, h2, h3.below hb, h4.below hb⟩
theorem ElX.grown {X X' : Nat → Prop} {w w' : World} {o : Option Nat} {vs : List Value} {ds : List DlD} (h : ElX X w vs ds) (hg : w.grownBy w' o) (ho : ∀ k, o = some k → X k) (hX : ∀ k, X' k → X k ∨ w.heap.size ≤ k) : ElX X' w' vs ds := fun i d hd => by
  obtain ⟨x, y, h1, h2, h3, h4⟩ := h i d hd
  exact ⟨x, y, h1, h2, h3.grown hg ho hX, h4.grown hg ho hX⟩
theorem ElX.snoc {X : Nat → Prop} {w : World} {vs : List Value} {ds : List DlD} (h : ElX X w vs ds) (hl : vs.length = ds.length * 2) {x y : Value} {d : DlD} (hx : InX X w x d.c) (hy : InX X w y d.s) : ElX X w (vs ++ [x, y]) (ds ++ [d]) := fun i e he => by
  by_cases hi : i < ds.length
  · rw [List.getElem?_append_left hi] at he
    obtain ⟨x, y, h1, h2, h3⟩ := h i e he
    exact ⟨x, y, by rw [List.getElem?_append_left (by omega)]; exact h1, by rw [List.getElem?_append_left (by omega)]; exact h2, h3⟩
  · rw [List.getElem?_append_right (by omega)] at he
    have h0 : i - ds.length = 0 := by
      rcases Nat.eq_zero_or_pos (i - ds.length) with h | h
      · exact h
      · rw [List.getElem?_eq_none (by simp; omega)] at he; cases he
    rw [h0] at he
    simp at he
    subst he
    exact ⟨x, y, by rw [List.getElem?_append_right (by omega), show i * 2 - vs.length = 0 by omega]; rfl, by rw [List.getElem?_append_right (by omega), show i * 2 + 1 - vs.length = 1 by omega]; rfl, hx, hy⟩
/-- Two rows of other types lie apart. -/
theorem rows_apart {w : World} {B1 B2 n1 n2 s1 s2 : Nat} {e1 e2 : TypeId} {v1 v2 : Value} {xs ys : List Value} (h1 : w.ownsRow B1 e1 s1 v1 n1 xs) (h2 : w.ownsRow B2 e2 s2 v2 n2 ys) (hne : e1 ≠ e2) {k : Nat} (k1 : v1.ownBlock = some k) (k2 : v2.ownBlock = some k) : False := by
  rcases h1.2 with ⟨rfl, _⟩ | ⟨g1, c1, cur1, rfl, _, hh1, _⟩
  · simp [Value.ownBlock] at k1
  · rcases h2.2 with ⟨rfl, _⟩ | ⟨g2, c2, cur2, rfl, _, hh2, _⟩
    · simp [Value.ownBlock] at k2
    · simp [Value.ownBlock] at k1 k2
      subst k1
      subst k2
      rw [hh1] at hh2
      simp at hh2
      first | exact hne hh2.2.1 | exact hne hh2.2 | exact hne hh2
theorem rows_kept {w w' : World} {B1 B2 n1 n2 s1 s2 : Nat} {e1 e2 : TypeId} {v1 v2 : Value} {xs ys : List Value} (h1 : w.ownsRow B1 e1 s1 v1 n1 xs) (h2 : w.ownsRow B2 e2 s2 v2 n2 ys) (hne : e1 ≠ e2) (hg : w.grownBy w' v1.ownBlock) : w'.ownsRow B2 e2 s2 v2 n2 ys :=
  own_block h2 (fun g hgu => hg.block g (h2.lt g hgu).2 (fun e => rows_apart h1 h2 hne e.symm hgu))
/-- A row of dealings that is read. -/
theorem inDs_of_row {X : Nat → Prop} {w : World} {B n cap : Nat} {ad : Option Addr} {vs : List Value} {ds : List DlD} (h : w.ownsRow B 42 2 (.slice ad n cap) n vs) (hn : ds.length = n) (he : ElX X w vs ds) : InDs w.heap.size w (.slice ad n cap) ds := by
  subst hn
  have hcap := own_capD h
  rcases h.2 with ⟨h1, h0⟩ | ⟨g, cap', cur, h1, hb, hg, _⟩
  · simp only [Value.slice.injEq] at h1
    obtain ⟨rfl, _, rfl⟩ := h1
    exact ⟨Nat.le_refl _, none, 0, by rw [h0], ⟨fun _ => rfl, by omega⟩, .inl (List.length_eq_zero_iff.1 h0)⟩
  · simp only [Value.slice.injEq] at h1
    obtain ⟨rfl, _, rfl⟩ := h1
    have hgl := (h.lt g rfl).2
    refine ⟨Nat.le_refl _, some ⟨g, 0, none⟩, cap, rfl, ⟨(fun h => by cases h), hcap⟩, .inr ⟨g, 0, rfl, hgl, hgl, fun i d hd => ?_⟩⟩
    obtain ⟨x, y, hx, hy, hi, hj⟩ := he i d hd
    have ha : ∀ j, (⟨g, 0, none⟩ : Addr).add j = ⟨g, 0 + j, none⟩ := by
      intro j
      unfold Addr.add; split
      · subst_vars; rfl
      · rfl
    have c1 := h.cells (g := g) rfl (i * 2) x hx
    have c2 := h.cells (g := g) rfl (i * 2 + 1) y hy
    rw [ha] at c1 c2
    exact ⟨x, y, c1, by rwa [Nat.add_assoc], hi.toIn, hj.toIn⟩

end Go.Proofs.Ytchlnkdlnfjijaa

