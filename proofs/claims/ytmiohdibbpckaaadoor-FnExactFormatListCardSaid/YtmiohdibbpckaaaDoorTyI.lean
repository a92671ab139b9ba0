/- Values that a law copies, compares and marks: lists of integers. In..: it reads so, below a block; Ow..: rows of one's own, within blocks. -/
import Derived.Test.YtmiohdibbpckaaaDoorBas
namespace Go.Proofs.YtmiohdibbpckaaaDoor
open Go.RowKit

/-- Blocks outside [Q, P) are as they were. -/
structure Mid (Q P : Nat) (w w' : World) : Prop where
  os : w'.os = w.os
  tape : w'.tape = w.tape
  output : w'.output = w.output
  size : w.heap.size ≤ w'.heap.size
  block : ∀ k, k < w.heap.size → (k < Q ∨ P ≤ k) → w'.heap[k]? = w.heap[k]?
theorem Mid.refl (Q P : Nat) (w : World) : Mid Q P w w := ⟨rfl, rfl, rfl, Nat.le_refl _, fun _ _ _ => rfl⟩
theorem Mid.trans {Q P : Nat} {a b c : World} (h : Mid Q P a b) (k : Mid Q P b c) : Mid Q P a c :=
  ⟨k.os.trans h.os, k.tape.trans h.tape, k.output.trans h.output, Nat.le_trans h.size k.size, fun i hi hr => (k.block i (Nat.lt_of_lt_of_le hi h.size) hr).trans (h.block i hi hr)⟩
theorem Mid.wide {Q P Q' P' : Nat} {w w' : World} (h : Mid Q P w w') (hQ : Q' ≤ Q) (hP : P ≤ P') : Mid Q' P' w w' :=
  ⟨h.os, h.tape, h.output, h.size, fun k hk hr => h.block k hk (by omega)⟩
theorem Mid.grown {Q P : Nat} {w w' : World} {r : Option Nat} (hg : w.grownBy w' r) (hr : ∀ k, r = some k → Q ≤ k ∧ k < P) : Mid Q P w w' :=
  ⟨hg.os, hg.tape, hg.output, hg.size, fun k hk h => hg.block k hk (fun e => by have := hr k e.symm; omega)⟩
theorem Mid.ofBelow {Q P : Nat} {w w' : World} (h : Below w.heap.size w w') : Mid Q P w w' := ⟨h.os, h.tape, h.output, h.size, fun k hk _ => h.block k hk⟩
theorem Mid.toBelow {Q P B : Nat} {w w' : World} (h : Mid Q P w w') (hB : B ≤ Q) (hs : B ≤ w.heap.size) : Below B w w' :=
  ⟨h.os, h.tape, h.output, h.size, fun k hk => h.block k (by omega) (by omega)⟩

theorem mid_cell (w : World) (b i : Nat) (v : Value) : Mid b (b + 1) w (w.setCell ⟨b, i, none⟩ v) := Mid.grown (grown_cell w ⟨b, i, none⟩ v) (by rintro k ⟨⟩; exact ⟨Nat.le_refl _, Nat.lt_succ_self _⟩)

theorem own_block {w w' : World} {base : Nat} {e : TypeId} {size : Nat} {v : Value} {n : Nat} {xs : List Value} (h : w.ownsRow base e size v n xs) (hb : ∀ g, v.ownBlock = some g → w'.heap[g]? = w.heap[g]?) : w'.ownsRow base e size v n xs := by
  refine ⟨h.1, ?_⟩
  rcases h.2 with hn | ⟨g, cap, cur, rfl, hb', hgg, rest⟩
  · exact .inl hn
  · exact .inr ⟨g, cap, cur, rfl, hb', by rw [hb g rfl]; exact hgg, rest⟩
theorem own_rebase {w : World} {base base' : Nat} {e : TypeId} {size : Nat} {v : Value} {n : Nat} {xs : List Value} (h : w.ownsRow base e size v n xs) (hb : ∀ g, v.ownBlock = some g → base' ≤ g) : w.ownsRow base' e size v n xs := by
  refine ⟨h.1, ?_⟩
  rcases h.2 with hn | ⟨g, cap, cur, rfl, hb', rest⟩
  · exact .inl hn
  · exact .inr ⟨g, cap, cur, rfl, hb g rfl, rest⟩

theorem ret_int {k : IntKind} {a b : Int} (h : a = b) : Ending.returned (.int k a) = .returned (.int k b) := by rw [h]

/-- A row of one's own within the blocks [Q, P). -/
def OwR (e : TypeId) (size : Nat) (Q P : Nat) (w : World) (v : Value) (n : Nat) (xs : List Value) : Prop :=
  w.ownsRow Q e size v n xs ∧ (∀ g, v.ownBlock = some g → g < P) ∧ P ≤ w.heap.size ∧ Q ≤ P
theorem OwR.below {e : TypeId} {size Q P : Nat} {w w' : World} {v : Value} {n : Nat} {xs : List Value} (h : OwR e size Q P w v n xs) (hb : Below w.heap.size w w') : OwR e size Q P w' v n xs :=
  ⟨own_block h.1 (fun g hg => hb.block g (by have := h.2.1 g hg; have := h.2.2.1; omega)), h.2.1, Nat.le_trans h.2.2.1 hb.size, h.2.2.2⟩
theorem OwR.mid {e : TypeId} {size Q P A B : Nat} {w w' : World} {v : Value} {n : Nat} {xs : List Value} (h : OwR e size Q P w v n xs) (hm : Mid A B w w') (ho : P ≤ A ∨ B ≤ Q) : OwR e size Q P w' v n xs :=
  ⟨own_block h.1 (fun g hg => hm.block g (by have := h.2.1 g hg; have := h.2.2.1; omega) (by have := h.2.1 g hg; have := (h.1.lt g hg).1; omega)), h.2.1, Nat.le_trans h.2.2.1 hm.size, h.2.2.2⟩
theorem OwR.wide {e : TypeId} {size Q P Q' P' : Nat} {w : World} {v : Value} {n : Nat} {xs : List Value} (h : OwR e size Q P w v n xs) (hQ : Q' ≤ Q) (hP : P ≤ P') (hs : P' ≤ w.heap.size) : OwR e size Q' P' w v n xs :=
  ⟨own_rebase h.1 (fun g hg => Nat.le_trans hQ (h.1.lt g hg).1), fun g hg => Nat.lt_of_lt_of_le (h.2.1 g hg) hP, hs, Nat.le_trans hQ (Nat.le_trans h.2.2.2 hP)⟩
theorem OwR.mk {e : TypeId} {size Q : Nat} {w : World} {v : Value} {n : Nat} {xs : List Value} (h : w.ownsRow Q e size v n xs) (hQ : Q ≤ w.heap.size) : OwR e size Q w.heap.size w v n xs :=
  ⟨h, fun g hg => (h.lt g hg).2, Nat.le_refl _, hQ⟩

/-- The slice reads as 'zs' and lies below block B. -/
def InB (B : Nat) (w : World) (ad : Option Addr) (zs : List Int) : Prop :=
  zs = [] ∨ ∃ b off, ad = some ⟨b, off, none⟩ ∧ b < B ∧ b < w.heap.size ∧ ∀ i, i < zs.length → w.cell? ⟨b, off + i, none⟩ = some (.int .i64 (zs.getD i 0))
theorem InB.ints {B : Nat} {w : World} {ad : Option Addr} {zs : List Int} (h : InB B w ad zs) : IsInts w ad zs := by
  rcases h with h | ⟨b, off, h1, _, h2, h3⟩
  · exact .inl h
  · exact .inr ⟨b, off, h1, h2, h3⟩
theorem IsInts.inB {w : World} {ad : Option Addr} {zs : List Int} (h : IsInts w ad zs) {B : Nat} (hB : w.heap.size ≤ B) : InB B w ad zs := by
  rcases h with h | ⟨b, off, h1, h2, h3⟩
  · exact .inl h
  · exact .inr ⟨b, off, h1, Nat.lt_of_lt_of_le h2 hB, h2, h3⟩
theorem InB.below {B : Nat} {w w' : World} {ad : Option Addr} {zs : List Int} (h : InB B w ad zs) (hb : Below B w w') : InB B w' ad zs := by
  rcases h with h | ⟨b, off, h1, h2, h3, h4⟩
  · exact .inl h
  · refine .inr ⟨b, off, h1, h2, Nat.lt_of_lt_of_le h3 hb.size, fun i hi => ?_⟩
    rw [hb.cell (p := ⟨b, off + i, none⟩) h2]
    exact h4 i hi
theorem InB.mono {B C : Nat} {w : World} {ad : Option Addr} {zs : List Int} (h : InB B w ad zs) (hB : B ≤ C) : InB C w ad zs := by
  rcases h with h | ⟨b, off, h1, h2, h3, h4⟩
  · exact .inl h
  · exact .inr ⟨b, off, h1, Nat.lt_of_lt_of_le h2 hB, h3, h4⟩
theorem InB.nil {B : Nat} {w : World} {ad : Option Addr} : InB B w ad [] := .inl rfl

/-! ### Lists of integers -/
def InI (P : Nat) (w : World) (v : Value) (zs : List Int) : Prop := P ≤ w.heap.size ∧ ∃ ad cap, v = .slice ad zs.length cap ∧ InB P w ad zs ∧ (ad = none → cap = 0) ∧ zs.length ≤ cap
def OwI (Q P : Nat) (w : World) (v : Value) (zs : List Int) : Prop := OwR 3 1 Q P w v zs.length (zs.map (Value.int .i64))
theorem InI.below {P : Nat} {w w' : World} {v : Value} {zs : List Int} (h : InI P w v zs) (hb : Below w.heap.size w w') : InI P w' v zs := by
  obtain ⟨h0, ad, cap, rfl, h1, h2⟩ := h
  exact ⟨Nat.le_trans h0 hb.size, ad, cap, rfl, h1.below (hb.mono h0), h2⟩
theorem InI.belowP {P : Nat} {w w' : World} {v : Value} {zs : List Int} (h : InI P w v zs) (hb : Below P w w') : InI P w' v zs := by
  obtain ⟨h0, ad, cap, rfl, h1, h2⟩ := h
  exact ⟨Nat.le_trans h0 hb.size, ad, cap, rfl, h1.below hb, h2⟩
theorem InI.mid {P A B : Nat} {w w' : World} {v : Value} {zs : List Int} (h : InI P w v zs) (hm : Mid A B w w') (hA : P ≤ A) : InI P w' v zs := h.belowP (hm.toBelow hA h.1)
theorem InI.wide {P P' : Nat} {w : World} {v : Value} {zs : List Int} (h : InI P w v zs) (hP : P ≤ P') (hs : P' ≤ w.heap.size) : InI P' w v zs := by
  obtain ⟨h0, ad, cap, rfl, h1, h2⟩ := h
  exact ⟨hs, ad, cap, rfl, h1.mono hP, h2⟩
theorem InI.le {P : Nat} {w : World} {v : Value} {zs : List Int} (h : InI P w v zs) : P ≤ w.heap.size := h.1
theorem OwI.le {Q P : Nat} {w : World} {v : Value} {zs : List Int} (h : OwI Q P w v zs) : P ≤ w.heap.size := h.2.2.1
theorem InI.shape {P : Nat} {w : World} {v : Value} {zs : List Int} (h : InI P w v zs) : ∃ ad cap, v = .slice ad zs.length cap := by
  obtain ⟨_, ad, cap, h, _⟩ := h
  exact ⟨ad, cap, h⟩
theorem OwI.below {Q P : Nat} {w w' : World} {v : Value} {zs : List Int} (h : OwI Q P w v zs) (hb : Below w.heap.size w w') : OwI Q P w' v zs := OwR.below h hb
theorem OwI.mid {Q P A B : Nat} {w w' : World} {v : Value} {zs : List Int} (h : OwI Q P w v zs) (hm : Mid A B w w') (ho : P ≤ A ∨ B ≤ Q) : OwI Q P w' v zs := OwR.mid h hm ho
theorem OwI.wide {Q P Q' P' : Nat} {w : World} {v : Value} {zs : List Int} (h : OwI Q P w v zs) (hQ : Q' ≤ Q) (hP : P ≤ P') (hs : P' ≤ w.heap.size) : OwI Q' P' w v zs := OwR.wide h hQ hP hs
theorem own_cap {w : World} {base size n vc : Nat} {va : Option Addr} {xs : List Value} {e : TypeId} (h : w.ownsRow base e size (.slice va n vc) n xs) : n ≤ vc := by
  rcases h.2 with ⟨h1, _⟩ | ⟨g, cap, cur, h1, _, _, h2, _⟩
  · simp only [Value.slice.injEq] at h1
    obtain ⟨_, rfl, rfl⟩ := h1
    exact Nat.le_refl _
  · simp only [Value.slice.injEq] at h1
    obtain ⟨_, _, rfl⟩ := h1
    exact h2
theorem OwI.toIn {Q P : Nat} {w : World} {v : Value} {zs : List Int} (h : OwI Q P w v zs) : InI P w v zs := by
  obtain ⟨h1, h2, h3, h4⟩ := h
  obtain ⟨va, vc, rfl⟩ := own_shape h1
  obtain ⟨hi, hn, hnil⟩ := own_ints h1
  refine ⟨h3, va, vc, rfl, ?_, hnil, own_cap h1⟩
  rcases hi with hi | ⟨b, off, rfl, hb, hc⟩
  · exact .inl hi
  · exact .inr ⟨b, off, rfl, h2 b rfl, hb, hc⟩
theorem owI_nil (Q : Nat) (w : World) (hQ : Q ≤ w.heap.size) : OwI Q w.heap.size w (.slice none 0 0) [] := OwR.mk (World.ownsRow_nil _ _ _ _) hQ
theorem owI_mk {Q : Nat} {w : World} {v : Value} {n : Nat} {zs : List Int} (h : w.ownsRow Q 3 1 v n (zs.map (Value.int .i64))) (hQ : Q ≤ w.heap.size) : OwI Q w.heap.size w v zs := by
  have hn : zs.length = n := by have := h.1; simpa using this
  subst hn
  exact OwR.mk h hQ
theorem InI.of {w : World} {ad : Option Addr} {cap : Nat} {zs : List Int} (h : IsInts w ad zs) (hn : ad = none → cap = 0) (hc : zs.length ≤ cap) : InI w.heap.size w (.slice ad zs.length cap) zs :=
  ⟨Nat.le_refl _, ad, cap, rfl, h.inB (Nat.le_refl _), hn, hc⟩

/-- What a copy, and what a marked one, is. -/
def MadeI (w : World) (zs : List Int) (e : Ending) (w' : World) : Prop := ∃ v, e = .returned v ∧ OwI w.heap.size w'.heap.size w' v zs ∧ Below w.heap.size w w'
def mkI (k : Int) (zs : List Int) : List Int := marks k zs.length
theorem mkI_length (k : Int) (zs : List Int) : (mkI k zs).length = zs.length := marks_length _ _
def MarkI (Q P : Nat) (w : World) (v : Value) (zs : List Int) (k : Int) (e : Ending) (w' : World) : Prop := e = .returned (.int .i64 (k + (zs.length : Int))) ∧ OwI Q P w' v (mkI k zs) ∧ Mid Q P w w'

theorem toI_any {P : Nat} {w : World} {v : Value} {zs : List Int} (h : InI P w v zs) (hl : zs.length ≤ 17592186044416) :
    Calls Tryd.prog 38 #[v] w (MadeI w zs) := by
  obtain ⟨h0, ad, cap, rfl, h1, h2⟩ := h
  refine (toIntS_any ad _ cap zs rfl hl w h1.ints).mono ?_
  rintro e w' ⟨g, rfl, hg, hown, hb⟩
  exact ⟨_, rfl, OwR.mk hown hb.size, hb⟩

theorem eqI_any {P P' : Nat} {w : World} {v v' : Value} {zs : List Int} (h : InI P w v zs) (h' : InI P' w v' zs) (hl : zs.length ≤ 17592186044416) :
    Calls Tryd.prog 39 #[v, v'] w fun e w' => e = .returned (.bool true) ∧ Below w.heap.size w w' := by
  obtain ⟨h0, ad, cap, rfl, h1, h2⟩ := h
  obtain ⟨h0', ad', cap', rfl, h1', h2'⟩ := h'
  exact eqIntS_same ad ad' _ _ cap cap' zs rfl rfl (by omega) w h1.ints h1'.ints

/-- How much is left of a bound. -/
def szV (n : Nat) (left : Int) : Int := if (n : Int) ≤ left then left - n else -1
/-- What a law's shell tells of a slice that came in. -/
theorem inI_of_row {w : World} {a : Option Addr} {len cap : Nat} {zs : List Int}
    (h : (a = none ∧ len = 0 ∧ cap = 0 ∧ zs = []) ∨ ∃ x, a = some x ∧ len ≤ cap ∧ cap ≤ maxLen ∧ zs.length = cap ∧ (∀ i, i < zs.length → w.cell? (x.add i) = some (.int .i64 (zs.getD i 0))) ∧ ∀ n ∈ zs, (Lit.int .i64 n).wf = true) :
    InI w.heap.size w (.slice a len cap) (zs.take len) ∧ (zs.take len).length = len ∧ len ≤ maxLen := by
  obtain ⟨h1, h2, h3⟩ := ints_of_row h
  refine ⟨?_, h2, h3⟩
  have := InI.of (cap := cap) h1 (by
    rintro rfl
    rcases h with ⟨_, _, h, _⟩ | ⟨x, h, _⟩
    · exact h
    · cases h) (by
    rw [h2]
    rcases h with ⟨_, h, _⟩ | ⟨x, _, h, _⟩
    · omega
    · exact h)
  rwa [h2] at this

end Go.Proofs.YtmiohdibbpckaaaDoor

