/- Values that a law copies, compares and marks: lists of integers. In..: it reads so, below a block; Ow..: rows of one's own, within blocks. -/
import Derived.Test.YtafoenoilcgjdaaBas
namespace Go.Proofs.Ytafoenoilcgjdaa
open Go.RowKit

/-- Blocks outside [Q, P) are as they were. -/
structure Mid (Q P : Nat) (w w' : World) : Prop where
  os : w'.os = w.os
  tape : w'.tape = w.tape
  output : w'.output = w.output
  size : w.heap.size ≤ w'.heap.size
  block : ∀ k, k < w.heap.size → (k < Q ∨ P ≤ k) → w'.heap[k]? = w.heap[k]?
theorem Mid.refl (Q P : Nat) (w : World) : Mid Q P w w := ⟨rfl, rfl, rfl, Nat.le_refl _, fun _ _ _ => rfl⟩
theorem Mid.trans {Q P : Nat} {a b c : World} (h : Mid Q P a b) (k : Mid Q P b c) : Mid Q P a c :=
  ⟨k.os.trans h.os, k.tape.trans h.tape, k.output.trans h.output, Nat.le_trans h.size k.size, fun i hi hr => (k.block i (Nat.lt_of_lt_of_le hi h.size) hr).trans (h.block i hi hr)⟩
theorem Mid.wide {Q P Q' P' : Nat} {w w' : World} (h : Mid Q P w w') (hQ : Q' ≤ Q) (hP : P ≤ P') : Mid Q' P' w w' :=
  ⟨h.os, h.tape, h.output, h.size, fun k hk hr => h.block k hk (by omega)⟩
theorem Mid.grown {Q P : Nat} {w w' : World} {r : Option Nat} (hg : w.grownBy w' r) (hr : ∀ k, r = some k → Q ≤ k ∧ k < P) : Mid Q P w w' :=
  ⟨hg.os, hg.tape, hg.output, hg.size, fun k hk h => hg.block k hk (fun e => by have := hr k e.symm; omega)⟩
theorem Mid.ofBelow {Q P : Nat} {w w' : World} (h : Below w.heap.size w w') : Mid Q P w w' := ⟨h.os, h.tape, h.output, h.size, fun k hk _ => h.block k hk⟩
theorem Mid.toBelow {Q P B : Nat} {w w' : World} (h : Mid Q P w w') (hB : B ≤ Q) (hs : B ≤ w.heap.size) : Below B w w' :=
  ⟨h.os, h.tape, h.output, h.size, fun k hk => h.block k (by omega) (by omega)⟩

theorem mid_cell (w : World) (b i : Nat) (v : Value) : Mid b (b + 1) w (w.setCell ⟨b, i, none⟩ v) := Mid.grown (grown_cell w ⟨b, i, none⟩ v) (by rintro k ⟨⟩; exact ⟨Nat.le_refl _, Nat.lt_succ_self _⟩)

theorem own_block {w w' : World} {base : Nat} {e : TypeId} {size : Nat} {v : Value} {n : Nat} {xs : List Value} (h : w.ownsRow base e size v n xs) (hb : ∀ g, v.ownBlock = some g → w'.heap[g]? = w.heap[g]?) : w'.ownsRow base e size v n xs := by
  refine ⟨h.1, ?_⟩
  rcases h.2 with hn | ⟨g, cap, cur, rfl, hb', hgg, rest⟩
  · exact .inl hn
  · exact .inr ⟨g, cap, cur, rfl, hb', by rw [hb g rfl]; exact hgg, rest⟩
theorem own_rebase {w : World} {base base' : Nat} {e : TypeId} {size : Nat} {v : Value} {n : Nat} {xs : List Value} (h : w.ownsRow base e size v n xs) (hb : ∀ g, v.ownBlock = some g → base' ≤ g) : w.ownsRow base' e size v n xs := by
  refine ⟨h.1, ?_⟩
  rcases h.2 with hn | ⟨g, cap, cur, rfl, hb', rest⟩
  · exact .inl hn
  · exact .inr ⟨g, cap, cur, rfl, hb g rfl, rest⟩

theorem ret_int {k : IntKind} {a b : Int} (h : a = b) : Ending.returned (.int k a) = .returned (.int k b) := by rw [h]

/-- A row of one's own within the blocks [Q, P). -/
def OwR (e : TypeId) (size : Nat) (Q P : Nat) (w : World) (v : Value) (n : Nat) (xs : List Value) : Prop :=
  w.ownsRow Q e size v n xs ∧ (∀ g, v.ownBlock = some g → g < P) ∧ P ≤ w.heap.size ∧ Q ≤ P
theorem OwR.below {e : TypeId} {size Q P : Nat} {w w' : World} {v : Value} {n : Nat} {xs : List Value} (h : OwR e size Q P w v n xs) (hb : Below w.heap.size w w') : OwR e size Q P w' v n xs :=
  ⟨own_block h.1 (fun g hg => hb.block g (by have := h.2.1 g hg; have := h.2.2.1; omega)), h.2.1, Nat.le_trans h.2.2.1 hb.size, h.2.2.2⟩
theorem OwR.mid {e : TypeId} {size Q P A B : Nat} {w w' : World} {v : Value} {n : Nat} {xs : List Value} (h : OwR e size Q P w v n xs) (hm : Mid A B w w') (ho : P ≤ A ∨ B ≤ Q) : OwR e size Q P w' v n xs :=
  ⟨own_block h.1 (fun g hg => hm.block g (by have := h.2.1 g hg; have := h.2.2.1; omega) (by have := h.2.1 g hg; have := (h.1.lt g hg).1; omega)), h.2.1, Nat.le_trans h.2.2.1 hm.size, h.2.2.2⟩
theorem OwR.wide {e : TypeId} {size Q P Q' P' : Nat} {w : World} {v : Value} {n : Nat} {xs : List Value} (h : OwR e size Q P w v n xs) (hQ : Q' ≤ Q) (hP : P ≤ P') (hs : P' ≤ w.heap.size) : OwR e size Q' P' w v n xs :=
  ⟨own_rebase h.1 (fun g hg => Nat.le_trans hQ (h.1.lt g hg).1), fun g hg => Nat.lt_of_lt_of_le (h.2.1 g hg) hP, hs, Nat.le_trans hQ (Nat.le_trans h.2.2.2 hP)⟩
theorem OwR.mk {e : TypeId} {size Q : Nat} {w : World} {v : Value} {n : Nat} {xs : List Value} (h : w.ownsRow Q e size v n xs) (hQ : Q ≤ w.heap.size) : OwR e size Q w.heap.size w v n xs :=
  ⟨h, fun g hg => (h.lt g hg).2, Nat.le_refl _, hQ⟩

/-- The slice reads as 'zs' and lies below block B. -/
def InB (B : Nat) (w : World) (ad : Option Addr) (zs : List Int) : Prop :=
  zs = [] ∨ ∃ b off, ad = some ⟨b, off, none⟩ ∧ b < B ∧ b < w.heap.size ∧ ∀ i, i < zs.length → w.cell? ⟨b, off + i, none⟩ = some (.int .i64 (zs.getD i 0))
theorem InB.ints {B : Nat} {w : World} {ad : Option Addr} {zs : List Int} (h : InB B w ad zs) : IsInts w ad zs := by
  rcases h with h | ⟨b, off, h1, _, h2, h3⟩
  · exact .inl h
  · exact .inr ⟨b, off, h1, h2, h3⟩
theorem IsInts.inB {w : World} {ad : Option Addr} {zs : List Int} (h : IsInts w ad zs) {B : Nat} (hB : w.heap.size ≤ B) : InB B w ad zs := by
  rcases h with h | ⟨b, off, h1, h2, h3⟩
  · exact .inl h
  · exact .inr ⟨b, off, h1, Nat.lt_of_lt_of_le h2 hB, h2, h3⟩
theorem InB.below {B : Nat} {w w' : World} {ad : Option Addr} {zs : List Int} (h : InB B w ad zs) (hb : Below B w w') : InB B w' ad zs := by
  rcases h with h | ⟨b, off, h1, h2, h3, h4⟩
  · exact .inl h
  · refine .inr ⟨b, off, h1, h2, Nat.lt_of_lt_of_le h3 hb.size, fun i hi => ?_⟩
    rw [hb.cell (p := ⟨b, off + i, none⟩) h2]
    exact h4 i hi
theorem InB.mono {B C : Nat} {w : World} {ad : Option Addr} {zs : List Int} (h : InB B w ad zs) (hB : B ≤ C) : InB C w ad zs := by
  rcases h with h | ⟨b, off, h1, h2, h3, h4⟩
  · exact .inl h
  · exact .inr ⟨b, off, h1, Nat.lt_of_lt_of_le h2 hB, h3, h4⟩
theorem InB.nil {B : Nat} {w : World} {ad : Option Addr} : InB B w ad [] := .inl rfl

/-! ### Lists of integers -/
def InI (P : Nat) (w : World) (v : Value) (zs : List Int) : Prop := P ≤ w.heap.size ∧ ∃ ad cap, v = .slice ad zs.length cap ∧ InB P w ad zs ∧ (ad = none → cap = 0) ∧ zs.length ≤ cap
def OwI (Q P : Nat) (w : World) (v : Value) (zs : List Int) : Prop := OwR 3 1 Q P w v zs.length (zs.map (Value.int .i64))
theorem InI.below {P : Nat} {w w' : World} {v : Value} {zs : List Int} (h : InI P w v zs) (hb : Below w.heap.size w w') : InI P w' v zs := by
  obtain ⟨h0, ad, cap, rfl, h1, h2⟩ := h
  exact ⟨Nat.le_trans h0 hb.size, ad, cap, rfl, h1.below (hb.mono h0), h2⟩
theorem InI.belowP {P : Nat} {w w' : World} {v : Value} {zs : List Int} (h : InI P w v zs) (hb : Below P w w') : InI P w' v zs := by
  obtain ⟨h0, ad, cap, rfl, h1, h2⟩ := h
  exact ⟨Nat.le_trans h0 hb.size, ad, cap, rfl, h1.below hb, h2⟩
theorem InI.mid {P A B : Nat} {w w' : World} {v : Value} {zs : List Int} (h : InI P w v zs) (hm : Mid A B w w') (hA : P ≤ A) : InI P w' v zs := h.belowP (hm.toBelow hA h.1)
theorem InI.wide {P P' : Nat} {w : World} {v : Value} {zs : List Int} (h : InI P w v zs) (hP : P ≤ P') (hs : P' ≤ w.heap.size) : InI P' w v zs := by
  obtain ⟨h0, ad, cap, rfl, h1, h2⟩ := h
  exact ⟨hs, ad, cap, rfl, h1.mono hP, h2⟩
theorem InI.le {P : Nat} {w : World} {v : Value} {zs : List Int} (h : InI P w v zs) : P ≤ w.heap.size := h.1
theorem OwI.le {Q P : Nat} {w : World} {v : Value} {zs : List Int} (h : OwI Q P w v zs) : P ≤ w.heap.size := h.2.2.1
theorem InI.shape {P : Nat} {w : World} {v : Value} {zs : List Int} (h : InI P w v zs) : ∃ ad cap, v = .slice ad zs.length cap := by
  obtain ⟨_, ad, cap, h, _⟩ := h
  exact ⟨ad, cap, h⟩
theorem OwI.below {Q P : Nat} {w w' : World} {v : Value} {zs : List Int} (h : OwI Q P w v zs) (hb : Below w.heap.size w w') : OwI Q P w' v zs := OwR.below h hb
theorem OwI.mid {Q P A B : Nat} {w w' : World} {v : Value} {zs : List Int} (h : OwI Q P w v zs) (hm : Mid A B w w') (ho : P ≤ A ∨ B ≤ Q) : OwI Q P w' v zs := OwR.mid h hm ho
theorem OwI.wide {Q P Q' P' : Nat} {w : World} {v : Value} {zs : List Int} (h : OwI Q P w v zs) (hQ : Q' ≤ Q) (hP : P ≤ P') (hs : P' ≤ w.heap.size) : OwI Q' P' w v zs := OwR.wide h hQ hP hs
theorem own_cap {w : World} {base size n vc : Nat} {va : Option Addr} {xs : List Value} {e : TypeId} (h : w.ownsRow base e size (.slice va n vc) n xs) : n ≤ vc := by
  rcases h.2 with ⟨h1, _⟩ | ⟨g, cap, cur, h1, _, _, h2, _⟩
  · simp only [Value.slice.injEq] at h1
    obtain ⟨_, rfl, rfl⟩ := h1
    exact Nat.le_refl _
  · simp only [Value.slice.injEq] at h1
    obtain ⟨_, _, rfl⟩ := h1
    exact h2
theorem OwI.toIn {Q P : Nat} {w : World} {v : Value} {zs : List Int} (h : OwI Q P w v zs) : InI P w v zs := by
  obtain ⟨h1, h2, h3, h4⟩ := h
  obtain ⟨va, vc, rfl⟩ := own_shape h1
  obtain ⟨hi, hn, hnil⟩ := own_ints h1
  refine ⟨h3, va, vc, rfl, ?_, hnil, own_cap h1⟩
  rcases hi with hi | ⟨b, off, rfl, hb, hc⟩
  · exact .inl hi
  · exact .inr ⟨b, off, rfl, h2 b rfl, hb, hc⟩
theorem owI_nil (Q : Nat) (w : World) (hQ : Q ≤ w.heap.size) : OwI Q w.heap.size w (.slice none 0 0) [] := OwR.mk (World.ownsRow_nil _ _ _ _) hQ
theorem owI_mk {Q : Nat} {w : World} {v : Value} {n : Nat} {zs : List Int} (h : w.ownsRow Q 3 1 v n (zs.map (Value.int .i64))) (hQ : Q ≤ w.heap.size) : OwI Q w.heap.size w v zs := by
  have hn : zs.length = n := by have := h.1; simpa using this
  subst hn
  exact OwR.mk h hQ
theorem InI.of {w : World} {ad : Option Addr} {cap : Nat} {zs : List Int} (h : IsInts w ad zs) (hn : ad = none → cap = 0) (hc : zs.length ≤ cap) : InI w.heap.size w (.slice ad zs.length cap) zs :=
  ⟨Nat.le_refl _, ad, cap, rfl, h.inB (Nat.le_refl _), hn, hc⟩

/-- What a copy, and what a marked one, is. -/
def MadeI (w : World) (zs : List Int) (e : Ending) (w' : World) : Prop := ∃ v, e = .returned v ∧ OwI w.heap.size w'.heap.size w' v zs ∧ Below w.heap.size w w'
def mkI (k : Int) (zs : List Int) : List Int := marks k zs.length
theorem mkI_length (k : Int) (zs : List Int) : (mkI k zs).length = zs.length := marks_length _ _
def MarkI (Q P : Nat) (w : World) (v : Value) (zs : List Int) (k : Int) (e : Ending) (w' : World) : Prop := e = .returned (.int .i64 (k + (zs.length : Int))) ∧ OwI Q P w' v (mkI k zs) ∧ Mid Q P w w'

theorem toI_any {P : Nat} {w : World} {v : Value} {zs : List Int} (h : InI P w v zs) (hl : zs.length ≤ 17592186044416) :
    Calls Try.prog 14 #[v] w (MadeI w zs) := by
  obtain ⟨h0, ad, cap, rfl, h1, h2⟩ := h
  refine (toIntS_any ad _ cap zs rfl hl w h1.ints).mono ?_
  rintro e w' ⟨g, rfl, hg, hown, hb⟩
  exact ⟨_, rfl, OwR.mk hown hb.size, hb⟩

theorem eqI_any {P P' : Nat} {w : World} {v v' : Value} {zs : List Int} (h : InI P w v zs) (h' : InI P' w v' zs) (hl : zs.length ≤ 17592186044416) :
    Calls Try.prog 16 #[v, v'] w fun e w' => e = .returned (.bool true) ∧ Below w.heap.size w w' := by
  obtain ⟨h0, ad, cap, rfl, h1, h2⟩ := h
  obtain ⟨h0', ad', cap', rfl, h1', h2'⟩ := h'
  exact eqIntS_same ad ad' _ _ cap cap' zs rfl rfl (by omega) w h1.ints h1'.ints

theorem markI_any {Q P : Nat} {w : World} {v : Value} {zs : List Int} {k : Int} (h : OwI Q P w v zs) (hk0 : 0 ≤ k) (hk1 : k ≤ 17592186044416) (hl : zs.length ≤ 17592186044416) :
    Calls Try.prog 38 #[v, .int .i64 k] w (MarkI Q P w v zs k) := by
  obtain ⟨h1, h2, h3, h4⟩ := h
  obtain ⟨va, vc, rfl⟩ := own_shape h1
  refine (markIntS_any Q va _ vc zs k hk0 hk1 hl w h1).mono ?_
  rintro e w' ⟨rfl, hown, hg⟩
  refine ⟨rfl, ?_, Mid.grown hg (fun q hq => ⟨(h1.lt q hq).1, h2 q hq⟩)⟩
  unfold OwI
  rw [mkI_length]
  exact ⟨hown, h2, Nat.le_trans h3 hg.size, h4⟩

/-- How much is left of a bound. -/
def szV (n : Nat) (left : Int) : Int := if (n : Int) ≤ left then left - n else -1
/-- What a law's shell tells of a slice that came in. -/
theorem inI_of_row {w : World} {a : Option Addr} {len cap : Nat} {zs : List Int}
    (h : (a = none ∧ len = 0 ∧ cap = 0 ∧ zs = []) ∨ ∃ x, a = some x ∧ len ≤ cap ∧ cap ≤ maxLen ∧ zs.length = cap ∧ (∀ i, i < zs.length → w.cell? (x.add i) = some (.int .i64 (zs.getD i 0))) ∧ ∀ n ∈ zs, (Lit.int .i64 n).wf = true) :
    InI w.heap.size w (.slice a len cap) (zs.take len) ∧ (zs.take len).length = len ∧ len ≤ maxLen := by
  obtain ⟨h1, h2, h3⟩ := ints_of_row h
  refine ⟨?_, h2, h3⟩
  have := InI.of (cap := cap) h1 (by
    rintro rfl
    rcases h with ⟨_, _, h, _⟩ | ⟨x, h, _⟩
    · exact h
    · cases h) (by
    rw [h2]
    rcases h with ⟨_, h, _⟩ | ⟨x, _, h, _⟩
    · omega
    · exact h)
  rwa [h2] at this

end Go.Proofs.Ytafoenoilcgjdaa

/- Proofs: three lists of integers; what the laws' helpers do with them. -/
namespace Go.Proofs.Ytafoenoilcgjdaa
open Go.RowKit

/-- Three values lie in block b, which may be written. -/
def B3 (w : World) (b : Nat) (x y z : Value) : Prop := w.cell? ⟨b, 0, none⟩ = some x ∧ w.cell? ⟨b, 1, none⟩ = some y ∧ w.cell? ⟨b, 2, none⟩ = some z ∧ ∀ i, w.frozen? ⟨b, i, none⟩ = false
theorem b3_new (w : World) (x y z : Value) (t : TypeId) : B3 (w.alloc (.cells #[x, y, z] t)) w.heap.size x y z := by
  refine ⟨?_, ?_, ?_, fun _ => World.frozen?_alloc_at _ _ _ _ rfl⟩ <;> (rw [World.cell?_alloc_at _ _ _ _ rfl]; rfl)
theorem B3.lt {w : World} {b : Nat} {x y z : Value} (h : B3 w b x y z) : b < w.heap.size := World.block_lt_of_cell? w _ h.1
theorem B3.below {w w' : World} {b : Nat} {x y z : Value} (h : B3 w b x y z) (hb : Below w.heap.size w w') : B3 w' b x y z := by
  have hl := h.lt
  refine ⟨?_, ?_, ?_, fun i => ?_⟩
  · rw [hb.cell (p := ⟨b, 0, none⟩) hl]; exact h.1
  · rw [hb.cell (p := ⟨b, 1, none⟩) hl]; exact h.2.1
  · rw [hb.cell (p := ⟨b, 2, none⟩) hl]; exact h.2.2.1
  · rw [hb.frozen (p := ⟨b, i, none⟩) hl]; exact h.2.2.2 i
theorem B3.belowB {w w' : World} {b B : Nat} {x y z : Value} (h : B3 w b x y z) (hb : Below B w w') (hl : b < B) : B3 w' b x y z := by
  refine ⟨?_, ?_, ?_, fun i => ?_⟩
  · rw [hb.cell (p := ⟨b, 0, none⟩) hl]; exact h.1
  · rw [hb.cell (p := ⟨b, 1, none⟩) hl]; exact h.2.1
  · rw [hb.cell (p := ⟨b, 2, none⟩) hl]; exact h.2.2.1
  · rw [hb.frozen (p := ⟨b, i, none⟩) hl]; exact h.2.2.2 i
theorem B3.mid {w w' : World} {b Q P : Nat} {x y z : Value} (h : B3 w b x y z) (hm : Mid Q P w w') (ho : b < Q ∨ P ≤ b) : B3 w' b x y z := by
  have hl := h.lt
  have he := hm.block b hl ho
  refine ⟨?_, ?_, ?_, fun i => ?_⟩
  · rw [World.cell?_of_block (a := ⟨b, 0, none⟩) he]; exact h.1
  · rw [World.cell?_of_block (a := ⟨b, 1, none⟩) he]; exact h.2.1
  · rw [World.cell?_of_block (a := ⟨b, 2, none⟩) he]; exact h.2.2.1
  · rw [World.frozen?_of_block (a := ⟨b, i, none⟩) he]; exact h.2.2.2 i
theorem B3.other {w : World} {b : Nat} {x y z : Value} (h : B3 w b x y z) (a : Addr) (v : Value) (hne : a.block ≠ b) : B3 (w.setCell a v) b x y z := by
  obtain ⟨c0, c1, c2, hf⟩ := h
  refine ⟨?_, ?_, ?_, fun i => by rw [World.frozen?_setCell]; exact hf i⟩
  · rw [World.cell?_setCell_other _ _ _ _ (fun e => hne (by rw [e]))]; exact c0
  · rw [World.cell?_setCell_other _ _ _ _ (fun e => hne (by rw [e]))]; exact c1
  · rw [World.cell?_setCell_other _ _ _ _ (fun e => hne (by rw [e]))]; exact c2
theorem B3.set0 {w : World} {b : Nat} {x y z : Value} (h : B3 w b x y z) (v : Value) : B3 (w.setCell ⟨b, 0, none⟩ v) b v y z := by
  obtain ⟨c0, c1, c2, hf⟩ := h
  refine ⟨World.cell?_setCell_same _ _ _ c0, ?_, ?_, fun i => by rw [World.frozen?_setCell]; exact hf i⟩
  · rw [World.cell?_setCell_other _ _ _ _ (by simp)]; exact c1
  · rw [World.cell?_setCell_other _ _ _ _ (by simp)]; exact c2
theorem B3.set1 {w : World} {b : Nat} {x y z : Value} (h : B3 w b x y z) (v : Value) : B3 (w.setCell ⟨b, 1, none⟩ v) b x v z := by
  obtain ⟨c0, c1, c2, hf⟩ := h
  refine ⟨?_, World.cell?_setCell_same _ _ _ c1, ?_, fun i => by rw [World.frozen?_setCell]; exact hf i⟩
  · rw [World.cell?_setCell_other _ _ _ _ (by simp)]; exact c0
  · rw [World.cell?_setCell_other _ _ _ _ (by simp)]; exact c2
theorem B3.set2 {w : World} {b : Nat} {x y z : Value} (h : B3 w b x y z) (v : Value) : B3 (w.setCell ⟨b, 2, none⟩ v) b x y v := by
  obtain ⟨c0, c1, c2, hf⟩ := h
  refine ⟨?_, ?_, World.cell?_setCell_same _ _ _ c2, fun i => by rw [World.frozen?_setCell]; exact hf i⟩
  · rw [World.cell?_setCell_other _ _ _ _ (by simp)]; exact c0
  · rw [World.cell?_setCell_other _ _ _ _ (by simp)]; exact c1

/-- The data of a proof. -/
structure PrD where
  c : List Int
  h : List Int
  r : List Int
def PrD.n (p : PrD) : Nat := p.c.length + p.h.length + p.r.length
def mkP (k : Int) (p : PrD) : PrD := ⟨mkI k p.c, mkI (k + p.c.length) p.h, mkI (k + p.c.length + p.h.length) p.r⟩

def InP (P : Nat) (w : World) (v : Value) (p : PrD) : Prop := ∃ a b c, v = .agg #[a, b, c] ∧ InI P w a p.c ∧ InI P w b p.h ∧ InI P w c p.r
def OwP (Q P : Nat) (w : World) (v : Value) (p : PrD) : Prop := ∃ a b c M N, v = .agg #[a, b, c] ∧ OwI Q M w a p.c ∧ OwI M N w b p.h ∧ OwI N P w c p.r
theorem InP.below {P : Nat} {w w' : World} {v : Value} {p : PrD} (h : InP P w v p) (hb : Below w.heap.size w w') : InP P w' v p := by
  obtain ⟨a, b, c, rfl, h1, h2, h3⟩ := h
  exact ⟨a, b, c, rfl, h1.below hb, h2.below hb, h3.below hb⟩
theorem InP.mid {P A B : Nat} {w w' : World} {v : Value} {p : PrD} (h : InP P w v p) (hm : Mid A B w w') (hA : P ≤ A) : InP P w' v p := by
  obtain ⟨a, b, c, rfl, h1, h2, h3⟩ := h
  exact ⟨a, b, c, rfl, h1.mid hm hA, h2.mid hm hA, h3.mid hm hA⟩
theorem OwP.below {Q P : Nat} {w w' : World} {v : Value} {p : PrD} (h : OwP Q P w v p) (hb : Below w.heap.size w w') : OwP Q P w' v p := by
  obtain ⟨a, b, c, M, N, rfl, h1, h2, h3⟩ := h
  exact ⟨a, b, c, M, N, rfl, h1.below hb, h2.below hb, h3.below hb⟩
theorem OwP.mid {Q P A B : Nat} {w w' : World} {v : Value} {p : PrD} (h : OwP Q P w v p) (hm : Mid A B w w') (ho : P ≤ A ∨ B ≤ Q) : OwP Q P w' v p := by
  obtain ⟨a, b, c, M, N, rfl, h1, h2, h3⟩ := h
  have q1 := h1.2.2.2
  have q2 := h2.2.2.2
  have q3 := h3.2.2.2
  exact ⟨a, b, c, M, N, rfl, h1.mid hm (by omega), h2.mid hm (by omega), h3.mid hm (by omega)⟩
theorem OwP.wide {Q P Q' P' : Nat} {w : World} {v : Value} {p : PrD} (h : OwP Q P w v p) (hQ : Q' ≤ Q) (hP : P ≤ P') (hs : P' ≤ w.heap.size := by exact Nat.le_refl _) : OwP Q' P' w v p := by
  obtain ⟨a, b, c, M, N, rfl, h1, h2, h3⟩ := h
  exact ⟨a, b, c, M, N, rfl, h1.wide hQ (Nat.le_refl _) h1.2.2.1, h2, h3.wide (Nat.le_refl _) hP hs⟩
theorem OwP.toIn {Q P : Nat} {w : World} {v : Value} {p : PrD} (h : OwP Q P w v p) : InP P w v p := by
  obtain ⟨a, b, c, M, N, rfl, h1, h2, h3⟩ := h
  have q2 := h2.2.2.2
  have q3 := h3.2.2.2
  have q4 := h3.2.2.1
  exact ⟨a, b, c, rfl, h1.toIn.wide (by omega) q4, h2.toIn.wide (by omega) q4, h3.toIn⟩

theorem InP.le {P : Nat} {w : World} {v : Value} {p : PrD} (h : InP P w v p) : P ≤ w.heap.size := by obtain ⟨a, b, c, rfl, h1, _⟩ := h; exact h1.1
theorem OwP.le {Q P : Nat} {w : World} {v : Value} {p : PrD} (h : OwP Q P w v p) : P ≤ w.heap.size := h.toIn.le

def MadeP (w : World) (p : PrD) (e : Ending) (w' : World) : Prop := ∃ v, e = .returned v ∧ OwP w.heap.size w'.heap.size w' v p ∧ Below w.heap.size w w'
def MarkP (Q P : Nat) (w : World) (p : PrD) (v : Value) (k : Int) (e : Ending) (w' : World) : Prop := e = .returned (.int .i64 (k + (p.n : Int))) ∧ OwP Q P w' v (mkP k p) ∧ Mid Q P w w'

end Go.Proofs.Ytafoenoilcgjdaa

/- Lists of ciphertexts; what the laws' helpers do with them. A list is told flat: A and B of each. -/
namespace Go.Proofs.Ytafoenoilcgjdaa
open Go.RowKit

theorem Try.infoCC : (Try.prog.info? 61).map (fun i => (i.zero, i.size, i.bytes)) = some (some (.agg #[.int .i64 0, .int .i64 0]), 2, 16) := by kernel_rfl
def CipsOwn (w : World) (base : Nat) (v : Value) (n : Nat) (res : List Int) : Prop := w.ownsRow base 61 2 v n (res.map (Value.int .i64))

theorem eqCip_same (p q : Int) (w : World) :
    Calls Try.prog 42 #[.agg #[.int .i64 p, .int .i64 q], .agg #[.int .i64 p, .int .i64 q]] w fun e w' => e = .returned (.bool true) ∧ ∃ c1 c2 : Array Value, w' = (w.alloc (.cells c1 61)).alloc (.cells c2 61) := by
  go_enter Try.func42, Try.ntmps42
  go_wp2
  go_ret
  exact ⟨rfl, _, _, rfl⟩

theorem ints_of_cips {w : World} {base n cap : Nat} {ad : Option Addr} {zs : List Int} (h : CipsOwn w base (.slice ad n cap) n zs) :
    IsInts w ad zs ∧ zs.length = n * 2 ∧ ∀ a, ad = some a → base ≤ a.block ∧ a.block < w.heap.size := ints_of_own2 h

set_option maxHeartbeats 1600000 in
theorem eqCips_same (ad ad' : Option Addr) (n n' cap cap' : Nat) (zs : List Int) (hn : zs.length = n * 2) (hn' : zs.length = n' * 2) (hl : n ≤ 17592186044416) (w : World) (hz : IsInts w ad zs) (hz' : IsInts w ad' zs) :
    Calls Try.prog 36 #[.slice ad n cap, .slice ad' n' cap'] w fun e w' => e = .returned (.bool true) ∧ Below w.heap.size w w' := by
  obtain rfl : n = n' := by omega
  have HN := Lib.hid hn
  clear hn hn'
  go_enter Try.func36, Try.ntmps36
  go_wp2
  go_loopw [5] (fun K wr => ∃ k : Nat, k ≤ n ∧ K = .int .i64 k ∧ Below w.heap.size w wr) (fun K _ => n - (intOf K).toNat)
  case atStart => exact ⟨0, Nat.zero_le _, rfl, Below.refl _ _⟩
  case round =>
    obtain ⟨k, hk, rfl, hbel⟩ := hrel
    by_cases hkn : k < n
    · obtain ⟨b, off, p, q, rfl, hb, hc1, hc2, hd⟩ := (below_ints hz hbel).pair hkn HN.out
      obtain ⟨b', off', p', q', rfl, hb', hc1', hc2', hd'⟩ := (below_ints hz' hbel).pair hkn HN.out
      obtain ⟨rfl, rfl⟩ : p = p' ∧ q = q' := by rw [hd] at hd'; exact ⟨(List.cons.inj hd').1, (List.cons.inj (List.cons.inj hd').2).1⟩
      have HB := Lib.hid hbel
      clear hbel hd hd'
      go_wp2
      go_region_held3 (fun w' => w'.cell? ⟨b, off + k * 2, none⟩ = some (.int .i64 p) ∧ w'.cell? ⟨b, off + k * 2 + 1, none⟩ = some (.int .i64 q) ∧ w'.cell? ⟨b', off' + k * 2, none⟩ = some (.int .i64 p) ∧ w'.cell? ⟨b', off' + k * 2 + 1, none⟩ = some (.int .i64 q)) (first | exact ⟨hc1, hc2, hc1', hc2'⟩ | exact ⟨keep2 hb hc1 _ _ _, keep2 hb hc2 _ _ _, keep2 hb' hc1' _ _ _, keep2 hb' hc2' _ _ _⟩)
        ((go_at_call 42; refine (eqCip_same _ _ _).mono ?_; rintro e w' ⟨rfl, o1, o2, rfl⟩))
      go_wp2
      go_roundw
      case rel =>
        refine ⟨k + 1, by omega, by go_num, ?_⟩
        first | exact ((HB.out.alloc HB.out.size _).alloc (by have := HB.out.size; simp; omega) _).drew | exact (HB.out.alloc HB.out.size _).alloc (by have := HB.out.size; simp; omega) _
      case measure => simp only [intOf]; omega
    · have HB := Lib.hid hbel
      clear hbel
      go_wp2
      go_ret
      exact ⟨rfl, HB.out⟩


theorem cips_cell {wr : World} {B g n cap j : Nat} {zs : List Int} (hown : CipsOwn wr B (.slice (some ⟨g, 0, none⟩) n cap) n zs) (hj : j < n * 2) :
    (∃ u : Int, wr.cell? ⟨g, j, none⟩ = some (.int .i64 u)) ∧ wr.frozen? ⟨g, j, none⟩ = false := by
  refine ⟨⟨zs.getD j 0, ?_⟩, World.ownsRow.frozenAt hown j⟩
  rw [World.ownsRow.cellAt hown j hj]
  have hl : zs.length = n * 2 := by have := hown.1; simpa using this
  have hk' : j < zs.length := by omega
  simp [hk']

def CMarkPost (w : World) (base : Nat) (ad : Option Addr) (n cap : Nat) (k : Int) (e : Ending) (w' : World) : Prop :=
  e = .returned (.int .i64 (k + (n * 2 : Nat))) ∧ CipsOwn w' base (.slice ad n cap) n (marks k (n * 2)) ∧ w.grownBy w' (Value.slice ad n cap).ownBlock

theorem cmark_one {wr : World} {B g n cap j : Nat} {zs : List Int} {k : Int} (hown : CipsOwn wr B (.slice (some ⟨g, 0, none⟩) n cap) n (over (marks k (n * 2)) zs j)) (hj : j < n * 2) (hz : zs.length = n * 2) :
    CipsOwn (wr.setCell ⟨g, j, none⟩ (.int .i64 (k + j))) B (.slice (some ⟨g, 0, none⟩) n cap) n (over (marks k (n * 2)) zs (j + 1)) ∧ wr.grownBy (wr.setCell ⟨g, j, none⟩ (.int .i64 (k + j))) (some g) := by
  have := World.ownsRow.stored hown j (.int .i64 (k + j))
  rw [← List.map_set] at this
  have e := over_step (xs := marks k (n * 2)) (ys := zs) (j := j) (by rw [marks_length]; omega) (by omega)
  rw [marks_get] at e
  rwa [e] at this

theorem cmark_round {wr : World} {B g n cap j : Nat} {zs : List Int} {k : Int} (hown : CipsOwn wr B (.slice (some ⟨g, 0, none⟩) n cap) n (over (marks k (n * 2)) zs (j * 2))) (hj : j < n) (hz : zs.length = n * 2) :
    CipsOwn ((wr.setCell ⟨g, j * 2, none⟩ (.int .i64 (k + (j : Int) * 2))).setCell ⟨g, j * 2 + 1, none⟩ (.int .i64 (k + (j : Int) * 2 + 1))) B (.slice (some ⟨g, 0, none⟩) n cap) n (over (marks k (n * 2)) zs ((j + 1) * 2)) ∧
    wr.grownBy ((wr.setCell ⟨g, j * 2, none⟩ (.int .i64 (k + (j : Int) * 2))).setCell ⟨g, j * 2 + 1, none⟩ (.int .i64 (k + (j : Int) * 2 + 1))) (some g) ∧
    (∃ u : Int, (wr.setCell ⟨g, j * 2, none⟩ (.int .i64 (k + (j : Int) * 2))).cell? ⟨g, j * 2 + 1, none⟩ = some (.int .i64 u)) ∧ (wr.setCell ⟨g, j * 2, none⟩ (.int .i64 (k + (j : Int) * 2))).frozen? ⟨g, j * 2 + 1, none⟩ = false := by
  obtain ⟨o1, g1⟩ := cmark_one hown (by omega) hz
  obtain ⟨o2, g2⟩ := cmark_one (j := j * 2 + 1) o1 (by omega) hz
  obtain ⟨c1, c2⟩ := cips_cell (j := j * 2 + 1) o1 (by omega)
  rw [show (((j * 2 : Nat)) : Int) = (j : Int) * 2 by simp] at *
  rw [show k + ((j * 2 + 1 : Nat) : Int) = k + (j : Int) * 2 + 1 by omega, show j * 2 + 1 + 1 = (j + 1) * 2 by omega] at *
  exact ⟨o2, grown_trans g1 g2, c1, c2⟩

set_option maxHeartbeats 1600000 in
theorem markCips_any (base : Nat) (ad : Option Addr) (n cap : Nat) (zs : List Int) (k : Int) (hk0 : 0 ≤ k) (hk1 : k ≤ 17592186044416) (hl : n ≤ 17592186044416) (w : World) (hown0 : CipsOwn w base (.slice ad n cap) n zs) :
    Calls Try.prog 37 #[.slice ad n cap, .int .i64 k] w (CMarkPost w base ad n cap k) := by
  have hzl : zs.length = n * 2 := by have := hown0.1; simpa using this
  have HZ := Lib.hid hzl
  clear hzl
  rcases hown0.2 with ⟨h1, h2⟩ | ⟨g, cap', cur, h1, h2, h3, h4, h5, h6, h7⟩
  · simp only [Value.slice.injEq] at h1
    obtain ⟨rfl, _, rfl⟩ := h1
    subst h2
    have HO := Lib.hid hown0
    clear hown0
    go_enter Try.func37, Try.ntmps37
    go_wp2
    refine wp_loop_rounds 1 ?_
    rw [rounds_succ]
    go_wp2
    go_ret
    refine ⟨by simp, ?_, World.grownBy.refl _ _⟩
    have hnil : zs = [] := List.length_eq_zero_iff.1 HZ.out
    have := HO.out
    rw [hnil] at this
    simpa [marks] using this
  · simp only [Value.slice.injEq] at h1
    obtain ⟨rfl, _, rfl⟩ := h1
    clear h2 h3 h4 h5 h6 h7
    have HO := Lib.hid hown0
    clear hown0
    go_enter Try.func37, Try.ntmps37
    go_wp2
    go_loopw [1, 5] (fun A J wr => ∃ j : Nat, j ≤ n ∧ A = .int .i64 (k + (j : Int) * 2) ∧ J = .int .i64 j ∧ CipsOwn wr base (.slice (some ⟨g, 0, none⟩) n cap) n (over (marks k (n * 2)) zs (j * 2)) ∧ w.grownBy wr (some g)) (fun _ J _ => n - (intOf J).toNat)
    case atStart => exact ⟨0, Nat.zero_le _, by simp, rfl, by rw [over_zero]; exact HO.out, World.grownBy.refl _ _⟩
    case round =>
      obtain ⟨j, hj, rfl, rfl, hown, hg⟩ := hrel
      by_cases hjn : j < n
      · obtain ⟨⟨u, hcu⟩, hfu⟩ := cips_cell (j := j * 2) hown (by omega)
        obtain ⟨o2, g2, ⟨u2, hcu2⟩, hfu2⟩ := cmark_round hown hjn HZ.out
        have HR := Lib.hid o2
        have HG := Lib.hid (grown_trans hg g2)
        clear hown hg o2 g2
        go_wp2
        go_roundw
        case rel => exact ⟨j + 1, by omega, by go_num, by go_num, HR.out, HG.out⟩
        case measure => simp only [intOf]; omega
      · have HO2 := Lib.hid hown
        have HG := Lib.hid hg
        clear hown hg
        obtain rfl : j = n := by omega
        go_wp2
        go_ret
        refine ⟨by simp, ?_, HG.out⟩
        have h := HO2.out
        rwa [over_all _ _ (by rw [marks_length]; omega) (by rw [HZ.out]; omega)] at h

set_option maxHeartbeats 1600000 in
theorem heldCips_any (ad : Option Addr) (n cap : Nat) (k : Int) (hk0 : 0 ≤ k) (hk1 : k ≤ 17592186044416) (hl : n ≤ 17592186044416) (w : World) (hz : IsInts w ad (marks k (n * 2))) :
    Calls Try.prog 39 #[.slice ad n cap, .int .i64 k] w fun e w' => e = .returned (.int .i64 (k + (n * 2 : Nat))) ∧ w = w' := by
  go_enter Try.func39, Try.ntmps39
  go_wp2
  go_loop [1, 5] (fun A J => ∃ j : Nat, j ≤ n ∧ A = .int .i64 (k + (j : Int) * 2) ∧ J = .int .i64 j) (fun _ J => n - (intOf J).toNat)
  case atStart => exact ⟨0, Nat.zero_le _, by simp, rfl⟩
  case round =>
    obtain ⟨j, hj, rfl, rfl⟩ := hrel
    by_cases hjn : j < n
    · obtain ⟨b, off, p, q, rfl, hb, hc1, hc2, hd⟩ := hz.pair hjn (by rw [marks_length])
      obtain ⟨rfl, rfl⟩ : k + (j : Int) * 2 = p ∧ k + (j : Int) * 2 + 1 = q := by
        rw [List.drop_eq_getElem_cons (by rw [marks_length]; omega), List.drop_eq_getElem_cons (by rw [marks_length]; omega)] at hd
        have e1 := (List.cons.inj hd).1
        have e2 := (List.cons.inj (List.cons.inj hd).2).1
        rw [marks_get] at e1 e2
        omega
      clear hd
      go_wp2
      go_round
      case rel => exact ⟨j + 1, by omega, by go_num, by go_num⟩
      case measure => simp only [intOf]; omega
    · obtain rfl : j = n := by omega
      go_wp2
      go_ret
      exact ⟨by simp, rfl⟩


/-! ### The data -/
def InC (P : Nat) (w : World) (v : Value) (zs : List Int) : Prop := P ≤ w.heap.size ∧ ∃ ad n cap, v = .slice ad n cap ∧ zs.length = n * 2 ∧ InB P w ad zs ∧ (ad = none → cap = 0)
def OwC (Q P : Nat) (w : World) (v : Value) (zs : List Int) : Prop := ∃ n, OwR 61 2 Q P w v n (zs.map (Value.int .i64))
theorem InC.below {P : Nat} {w w' : World} {v : Value} {zs : List Int} (h : InC P w v zs) (hb : Below w.heap.size w w') : InC P w' v zs := by
  obtain ⟨h0, ad, n, cap, rfl, hn, h1, h2⟩ := h
  exact ⟨Nat.le_trans h0 hb.size, ad, n, cap, rfl, hn, h1.below (hb.mono h0), h2⟩
theorem InC.mid {P A B : Nat} {w w' : World} {v : Value} {zs : List Int} (h : InC P w v zs) (hm : Mid A B w w') (hA : P ≤ A) : InC P w' v zs := by
  obtain ⟨h0, ad, n, cap, rfl, hn, h1, h2⟩ := h
  exact ⟨Nat.le_trans h0 hm.size, ad, n, cap, rfl, hn, h1.below (hm.toBelow hA h0), h2⟩
theorem OwC.below {Q P : Nat} {w w' : World} {v : Value} {zs : List Int} (h : OwC Q P w v zs) (hb : Below w.heap.size w w') : OwC Q P w' v zs := by
  obtain ⟨n, h⟩ := h
  exact ⟨n, h.below hb⟩
theorem OwC.mid {Q P A B : Nat} {w w' : World} {v : Value} {zs : List Int} (h : OwC Q P w v zs) (hm : Mid A B w w') (ho : P ≤ A ∨ B ≤ Q) : OwC Q P w' v zs := by
  obtain ⟨n, h⟩ := h
  exact ⟨n, h.mid hm ho⟩
theorem OwC.toIn {Q P : Nat} {w : World} {v : Value} {zs : List Int} (h : OwC Q P w v zs) : InC P w v zs := by
  obtain ⟨n, h1, h2, h3, h4⟩ := h
  obtain ⟨va, vc, rfl⟩ := own_shape h1
  obtain ⟨hi, hn, hbd⟩ := ints_of_own2 h1
  refine ⟨h3, va, n, vc, rfl, hn, ?_, ?_⟩
  · rcases hi with hi | ⟨b, off, rfl, hb, hc⟩
    · exact .inl hi
    · exact .inr ⟨b, off, rfl, h2 b rfl, hb, hc⟩
  · rintro rfl
    rcases h1.2 with ⟨h, _⟩ | ⟨g, cap', cur, h, _⟩
    · simp only [Value.slice.injEq] at h; exact h.2.2
    · simp at h
theorem InC.le {P : Nat} {w : World} {v : Value} {zs : List Int} (h : InC P w v zs) : P ≤ w.heap.size := h.1
theorem OwC.le {Q P : Nat} {w : World} {v : Value} {zs : List Int} (h : OwC Q P w v zs) : P ≤ w.heap.size := h.toIn.1
theorem owC_mk {Q : Nat} {w : World} {v : Value} {n : Nat} {zs : List Int} (h : w.ownsRow Q 61 2 v n (zs.map (Value.int .i64))) (hQ : Q ≤ w.heap.size) : OwC Q w.heap.size w v zs := ⟨n, OwR.mk h hQ⟩
theorem owC_nil (Q : Nat) (w : World) (hQ : Q ≤ w.heap.size) : OwC Q w.heap.size w (.slice none 0 0) [] := owC_mk (n := 0) (World.ownsRow_nil _ _ _ _) hQ

def MadeC (w : World) (zs : List Int) (e : Ending) (w' : World) : Prop := ∃ v, e = .returned v ∧ OwC w.heap.size w'.heap.size w' v zs ∧ Below w.heap.size w w'
def MarkC (Q P : Nat) (w : World) (v : Value) (zs : List Int) (k : Int) (e : Ending) (w' : World) : Prop := e = .returned (.int .i64 (k + (zs.length : Int))) ∧ OwC Q P w' v (mkI k zs) ∧ Mid Q P w w'

theorem eqC_any {P P' : Nat} {w : World} {v v' : Value} {zs : List Int} (h : InC P w v zs) (h' : InC P' w v' zs) (hl : zs.length ≤ 17592186044416) :
    Calls Try.prog 36 #[v, v'] w fun e w' => e = .returned (.bool true) ∧ Below w.heap.size w w' := by
  obtain ⟨h0, ad, n, cap, rfl, hn, h1, h2⟩ := h
  obtain ⟨h0', ad', n', cap', rfl, hn', h1', h2'⟩ := h'
  exact eqCips_same ad ad' _ _ cap cap' zs hn hn' (by omega) w h1.ints h1'.ints

theorem markC_any {Q P : Nat} {w : World} {v : Value} {zs : List Int} {k : Int} (h : OwC Q P w v zs) (hk0 : 0 ≤ k) (hk1 : k ≤ 17592186044416) (hl : zs.length ≤ 17592186044416) :
    Calls Try.prog 37 #[v, .int .i64 k] w (MarkC Q P w v zs k) := by
  obtain ⟨n, h1, h2, h3, h4⟩ := h
  obtain ⟨va, vc, rfl⟩ := own_shape h1
  have hn : zs.length = n * 2 := by have := h1.1; simpa using this
  refine (markCips_any Q va n vc zs k hk0 hk1 (by omega) w h1).mono ?_
  rintro e w' ⟨rfl, hown, hg⟩
  refine ⟨by rw [hn], ⟨n, ?_⟩, Mid.grown hg (fun q hq => ⟨(h1.lt q hq).1, h2 q hq⟩)⟩
  unfold mkI
  rw [hn]
  exact ⟨hown, h2, Nat.le_trans h3 hg.size, h4⟩

theorem heldC_any {P : Nat} {w : World} {v : Value} {zs : List Int} {k : Int} (h : InC P w v (mkI k zs)) (hk0 : 0 ≤ k) (hk1 : k ≤ 17592186044416) (hl : zs.length ≤ 17592186044416) :
    Calls Try.prog 39 #[v, .int .i64 k] w fun e w' => e = .returned (.int .i64 (k + (zs.length : Int))) ∧ w = w' := by
  obtain ⟨h0, ad, n, cap, rfl, hn, h1, h2⟩ := h
  rw [mkI_length] at hn
  have h3 := h1.ints
  unfold mkI at h3
  rw [hn] at h3 ⊢
  exact heldCips_any ad n cap k hk0 hk1 (by omega) w h3

theorem made_twoC (z : Value) (m : Nat) : (madeCells #[z, z] m).toList = List.replicate m z := by
  rw [List.eq_replicate_iff]
  refine ⟨by simp [madeCells], ?_⟩
  intro v hv
  simp [madeCells] at hv
  obtain ⟨i, _, rfl⟩ := hv
  have : i % 2 = 0 ∨ i % 2 = 1 := by omega
  rcases this with h | h <;> simp [h]

theorem toCip_any (p q : Int) (w : World) :
    Calls Try.prog 44 #[.agg #[.int .i64 p, .int .i64 q]] w fun e w' => e = .returned (.agg #[.int .i64 p, .int .i64 q]) ∧ Below w.heap.size w w' := by
  go_enter Try.func44, Try.ntmps44
  go_wp2
  (try simp only [Exit.inBlock, Exit.then])
  refine bodyPost_ret (v := .agg #[.int .i64 p, .int .i64 q]) ?_ rfl ⟨rfl, ?_⟩
  · rw [results_cell_one rfl]; go_simp
  · exact bt (bt (ba _ _) (ba _ _)) (ba _ _)

theorem cset_one {wr : World} {B g n cap j : Nat} {xs ys : List Int} {x : Int} (hown : CipsOwn wr B (.slice (some ⟨g, 0, none⟩) n cap) n (over xs ys j)) (hx : xs.drop j = x :: xs.drop (j + 1)) (hy : xs.length = ys.length) :
    CipsOwn (wr.setCell ⟨g, j, none⟩ (.int .i64 x)) B (.slice (some ⟨g, 0, none⟩) n cap) n (over xs ys (j + 1)) ∧ wr.grownBy (wr.setCell ⟨g, j, none⟩ (.int .i64 x)) (some g) := by
  have hj : j < xs.length := by
    rcases Nat.lt_or_ge j xs.length with h | h
    · exact h
    · rw [List.drop_of_length_le h] at hx; cases hx
  have hg : xs[j] = x := by rw [List.drop_eq_getElem_cons hj] at hx; exact (List.cons.inj hx).1
  have := World.ownsRow.stored hown j (.int .i64 x)
  rw [← List.map_set] at this
  have e := over_step (xs := xs) (ys := ys) (j := j) hj (by omega)
  rw [hg] at e
  rwa [e] at this
theorem cset_two {wr : World} {B g n cap j : Nat} {xs ys : List Int} {x y : Int} (hown : CipsOwn wr B (.slice (some ⟨g, 0, none⟩) n cap) n (over xs ys (j * 2))) (hx : xs.drop (j * 2) = x :: y :: xs.drop ((j + 1) * 2)) (hn : xs.length = n * 2) (hy : ys.length = n * 2) (hj : j < n) :
    CipsOwn ((wr.setCell ⟨g, j * 2, none⟩ (.int .i64 x)).setCell ⟨g, j * 2 + 1, none⟩ (.int .i64 y)) B (.slice (some ⟨g, 0, none⟩) n cap) n (over xs ys ((j + 1) * 2)) ∧
    (∃ u : Int, wr.cell? ⟨g, j * 2, none⟩ = some (.int .i64 u)) ∧ wr.frozen? ⟨g, j * 2, none⟩ = false ∧
    (∃ u : Int, (wr.setCell ⟨g, j * 2, none⟩ (.int .i64 x)).cell? ⟨g, j * 2 + 1, none⟩ = some (.int .i64 u)) ∧ (wr.setCell ⟨g, j * 2, none⟩ (.int .i64 x)).frozen? ⟨g, j * 2 + 1, none⟩ = false ∧
    (∃ u : Int, wr.cell? ⟨g, j * 2 + 1, none⟩ = some (.int .i64 u)) ∧ wr.frozen? ⟨g, j * 2 + 1, none⟩ = false := by
  have e1 : xs.drop (j * 2 + 1) = y :: xs.drop (j * 2 + 1 + 1) := by
    have := congrArg List.tail hx
    rw [List.tail_drop] at this
    rw [this]
    rw [show j * 2 + 1 + 1 = (j + 1) * 2 by omega]; rfl
  have e0 : xs.drop (j * 2) = x :: xs.drop (j * 2 + 1) := by rw [hx, e1, show j * 2 + 1 + 1 = (j + 1) * 2 by omega]
  obtain ⟨o1, g1⟩ := cset_one hown e0 (by omega)
  obtain ⟨o2, g2⟩ := cset_one (j := j * 2 + 1) o1 e1 (by omega)
  obtain ⟨c1, c2⟩ := cips_cell (j := j * 2 + 1) o1 (by omega)
  obtain ⟨d1, d2⟩ := cips_cell (j := j * 2) hown (by omega)
  obtain ⟨f1, f2⟩ := cips_cell (j := j * 2 + 1) hown (by omega)
  rw [show j * 2 + 1 + 1 = (j + 1) * 2 by omega] at o2
  exact ⟨o2, d1, d2, c1, c2, f1, f2⟩

set_option maxRecDepth 100000 in
set_option maxHeartbeats 1600000 in
theorem toC_any {P : Nat} {w : World} {v : Value} {zs : List Int} (h : InC P w v zs) (hl : zs.length ≤ 17592186044416) :
    Calls Try.prog 34 #[v] w (MadeC w zs) := by
  obtain ⟨h0, ad, n, cap, rfl, hn, h1, h2⟩ := h
  have hz := h1.ints
  obtain ⟨i0, hi, hz0, hz1, hz2⟩ := info_parts Try.infoCC
  have HZ2 := Lib.hid hz2
  have HN := Lib.hid hn
  have hl' : n ≤ 8796093022208 := by omega
  clear hz2 hn h2 h1 hl
  go_enter Try.func34, Try.ntmps34
  go_wp2_with (at_make; refine wpList_make_full _ rfl _ _ 52 rfl w.heap.size 61 i0 (.agg #[.int .i64 0, .int .i64 0]) 2 Try.underlying52 hi hz0 hz1 .i64 .i64 _ _ n rfl rfl rfl rfl (by rw [HZ2.out]; omega) (by unfold maxLen; omega) (Nat.le_refl _) ?_; intro w1 hown hgrow)
  go_loopw [4] (fun K wr => ∃ k : Nat, k ≤ n ∧ K = .int .i64 k ∧ CipsOwn wr w.heap.size (.slice (some ⟨w.heap.size, 0, none⟩) n n) n (over zs (List.replicate (n * 2) 0) (k * 2)) ∧ Below w.heap.size w wr) (fun K _ => n - (intOf K).toNat)
  case atStart =>
    refine ⟨0, Nat.zero_le _, rfl, ?_, (Below.refl _ _).grown hgrow (Nat.le_refl _) (by simp)⟩
    rw [show 0 * 2 = 0 from rfl, over_zero]
    have h := hown
    rw [show Value.cells (.agg #[.int .i64 0, .int .i64 0]) = #[.int .i64 0, .int .i64 0] from rfl, made_twoC] at h
    unfold CipsOwn
    rw [List.map_replicate]
    exact h
  case round =>
    obtain ⟨k, hk, rfl, hownr, hbel⟩ := hrel
    clear hown hgrow
    by_cases hkn : k < n
    · obtain ⟨b, off, p, q, rfl, hb, hc1, hc2, hd⟩ := (hz.below hbel (Nat.le_refl _)).pair hkn HN.out
      have HO := Lib.hid hownr
      have HB := Lib.hid hbel
      have HD := Lib.hid hd
      clear hownr hbel hd
      go_wp2_with fail
      refine (toCip_any _ _ _).mono ?_
      rintro e w2 ⟨rfl, hb2⟩
      obtain ⟨o2, ⟨u1, c1⟩, c2, ⟨u3, c3⟩, c4, ⟨u5, c5⟩, c6⟩ := cset_two (own_below HO.out hb2) HD.out HN.out (by simp) hkn
      have HO2 := Lib.hid o2
      have HB2 := Lib.hid (HB.out.trans (hb2.mono HB.out.size))
      clear hb2 o2 hc1 hc2
      go_wp2
      go_roundw
      case rel => exact ⟨k + 1, by omega, by go_num, HO2.out, (HB2.out.setCell (Nat.le_refl _) _).setCell (Nat.le_refl _) _⟩
      case measure => simp only [intOf]; omega
    · have HO := Lib.hid hownr
      have HB := Lib.hid hbel
      clear hownr hbel
      obtain rfl : k = n := by omega
      go_wp2
      go_ret
      refine ⟨_, rfl, ?_, HB.out⟩
      have h := HO.out
      rw [over_all _ _ (by have := HN.out; omega) (by simp)] at h
      exact owC_mk h HB.out.size

/-- A list of ciphertexts weighs as many as it has. -/
theorem szC_any {P : Nat} {w : World} {v : Value} {zs : List Int} {left : Int} (h : InC P w v zs) (h0 : 0 ≤ left) (h1 : left ≤ 1048576) (hl : zs.length ≤ 2 * maxLen) :
    Calls Try.prog 32 #[v, .int .i64 left] w fun e w' => e = .returned (.int .i64 (szV (zs.length / 2) left)) ∧ w = w' := by
  obtain ⟨_, ad, n, cap, rfl, hn, _, _⟩ := h
  unfold maxLen at hl
  obtain rfl : n = zs.length / 2 := by omega
  generalize hm : zs.length / 2 = m
  have hl' : m ≤ 9223372036854775807 := by omega
  clear hl hn hm
  by_cases hn : (m : Int) ≤ left
  · have e1 : szV m left = left - m := by simp [szV, hn]
    rw [e1]
    clear e1
    go_enter Try.func32, Try.ntmps32
    go_wp2
    go_ret
    exact ⟨rfl, rfl⟩
  · have e1 : szV m left = -1 := by simp [szV, hn]
    rw [e1]
    clear e1
    go_enter Try.func32, Try.ntmps32
    go_wp2
    go_ret
    exact ⟨rfl, rfl⟩

end Go.Proofs.Ytafoenoilcgjdaa

/- Lists of lists of integers; what the laws' helpers do with them. -/
namespace Go.Proofs.Ytafoenoilcgjdaa
open Go.RowKit

theorem Try.infoSL : (Try.prog.info? 24).map (fun i => (i.zero, i.size, i.bytes)) = some (some (.slice none 0 0), 1, 24) := by kernel_rfl

/-- Rows of one's own, one behind the other in memory, from block Q to block P. -/
def ChI (P : Nat) (w : World) : Nat → List Value → List (List Int) → Prop
  | Q, [], [] => Q ≤ P ∧ P ≤ w.heap.size
  | Q, v :: vs, z :: zs => ∃ M, OwI Q M w v z ∧ ChI P w M vs zs
  | _, _, _ => False
theorem ChI.len {P : Nat} {w : World} : ∀ {Q : Nat} {vs : List Value} {zss : List (List Int)}, ChI P w Q vs zss → vs.length = zss.length
  | _, [], [], _ => rfl
  | _, v :: vs, z :: zs, h => by obtain ⟨M, _, h⟩ := h; simp [ChI.len h]
theorem ChI.le {P : Nat} {w : World} : ∀ {Q : Nat} {vs : List Value} {zss : List (List Int)}, ChI P w Q vs zss → Q ≤ P ∧ P ≤ w.heap.size
  | _, [], [], h => h
  | _, v :: vs, z :: zs, h => by obtain ⟨M, h1, h⟩ := h; have := ChI.le h; have := h1.2.2.2; omega
theorem ChI.below {P : Nat} {w w' : World} (hb : Below w.heap.size w w') : ∀ {Q : Nat} {vs : List Value} {zss : List (List Int)}, ChI P w Q vs zss → ChI P w' Q vs zss
  | _, [], [], h => ⟨h.1, Nat.le_trans h.2 hb.size⟩
  | _, v :: vs, z :: zs, h => by obtain ⟨M, h1, h⟩ := h; exact ⟨M, h1.below hb, ChI.below hb h⟩
theorem ChI.mid {P A B : Nat} {w w' : World} (hm : Mid A B w w') : ∀ {Q : Nat} {vs : List Value} {zss : List (List Int)}, ChI P w Q vs zss → (P ≤ A ∨ B ≤ Q) → ChI P w' Q vs zss
  | _, [], [], h, _ => ⟨h.1, Nat.le_trans h.2 hm.size⟩
  | _, v :: vs, z :: zs, h, ho => by
    obtain ⟨M, h1, h⟩ := h
    have l := ChI.le h
    have q := h1.2.2.2
    exact ⟨M, h1.mid hm (by omega), ChI.mid hm h (by omega)⟩
theorem ChI.snoc {P R : Nat} {w : World} {v : Value} {z : List Int} (ho : OwI P R w v z) : ∀ {Q : Nat} {vs : List Value} {zss : List (List Int)}, ChI P w Q vs zss → ChI R w Q (vs ++ [v]) (zss ++ [z])
  | Q, [], [], h => ⟨R, ho.wide h.1 (Nat.le_refl _) ho.2.2.1, Nat.le_refl _, ho.2.2.1⟩
  | _, v :: vs, z :: zs, h => by obtain ⟨M, h1, h⟩ := h; exact ⟨M, h1, ChI.snoc ho h⟩
theorem ChI.get {P : Nat} {w : World} : ∀ {Q : Nat} {vs : List Value} {zss : List (List Int)}, ChI P w Q vs zss → ∀ (i : Nat) z, zss[i]? = some z → ∃ u, vs[i]? = some u ∧ InI P w u z
  | _, [], [], _, i, z, hz => by simp at hz
  | _, v :: vs, z :: zs, h, 0, z', hz => by
    obtain ⟨M, h1, h⟩ := h
    simp at hz
    subst hz
    exact ⟨v, by simp, h1.toIn.wide (ChI.le h).1 (ChI.le h).2⟩
  | _, v :: vs, z :: zs, h, i + 1, z', hz => by
    obtain ⟨M, h1, h⟩ := h
    simp at hz
    obtain ⟨u, hu, hi⟩ := ChI.get h i z' hz
    exact ⟨u, by simpa using hu, hi⟩
theorem ChI.wide {P R : Nat} {w : World} (hP : P ≤ R) (hR : R ≤ w.heap.size) : ∀ {Q : Nat} {vs : List Value} {zss : List (List Int)}, ChI P w Q vs zss → ChI R w Q vs zss
  | _, [], [], h => ⟨Nat.le_trans h.1 hP, hR⟩
  | _, v :: vs, z :: zs, h => by obtain ⟨M, h1, h⟩ := h; exact ⟨M, h1, ChI.wide hP hR h⟩

def InS (P : Nat) (w : World) (v : Value) (zss : List (List Int)) : Prop := P ≤ w.heap.size ∧ ∃ ad cap, v = .slice ad zss.length cap ∧ (ad = none → cap = 0) ∧
  (zss = [] ∨ ∃ b off, ad = some ⟨b, off, none⟩ ∧ b < P ∧ b < w.heap.size ∧ ∀ (i : Nat) z, zss[i]? = some z → ∃ u, w.cell? ⟨b, off + i, none⟩ = some u ∧ InI P w u z)
def OwS (Q P : Nat) (w : World) (v : Value) (zss : List (List Int)) : Prop := ∃ M vs, OwR 24 1 Q M w v zss.length vs ∧ ChI P w M vs zss
theorem InS.belowP {P : Nat} {w w' : World} {v : Value} {zss : List (List Int)} (h : InS P w v zss) (hb : Below P w w') : InS P w' v zss := by
  obtain ⟨h0, ad, cap, rfl, h1, h2⟩ := h
  refine ⟨Nat.le_trans h0 hb.size, ad, cap, rfl, h1, ?_⟩
  rcases h2 with h2 | ⟨b, off, h2, h3, h4, h5⟩
  · exact .inl h2
  · refine .inr ⟨b, off, h2, h3, Nat.lt_of_lt_of_le h4 hb.size, fun i z hz => ?_⟩
    obtain ⟨u, hu, hi⟩ := h5 i z hz
    exact ⟨u, by rw [hb.cell (p := ⟨b, off + i, none⟩) h3]; exact hu, hi.belowP hb⟩
theorem InS.below {P : Nat} {w w' : World} {v : Value} {zss : List (List Int)} (h : InS P w v zss) (hb : Below w.heap.size w w') : InS P w' v zss := h.belowP (hb.mono h.1)
theorem InS.mid {P A B : Nat} {w w' : World} {v : Value} {zss : List (List Int)} (h : InS P w v zss) (hm : Mid A B w w') (hA : P ≤ A) : InS P w' v zss := h.belowP (hm.toBelow hA h.1)
theorem OwS.below {Q P : Nat} {w w' : World} {v : Value} {zss : List (List Int)} (h : OwS Q P w v zss) (hb : Below w.heap.size w w') : OwS Q P w' v zss := by
  obtain ⟨M, vs, h1, h2⟩ := h
  exact ⟨M, vs, h1.below hb, h2.below hb⟩
theorem OwS.mid {Q P A B : Nat} {w w' : World} {v : Value} {zss : List (List Int)} (h : OwS Q P w v zss) (hm : Mid A B w w') (ho : P ≤ A ∨ B ≤ Q) : OwS Q P w' v zss := by
  obtain ⟨M, vs, h1, h2⟩ := h
  have l := h2.le
  have q := h1.2.2.2
  exact ⟨M, vs, h1.mid hm (by omega), h2.mid hm (by omega)⟩
theorem OwS.toIn {Q P : Nat} {w : World} {v : Value} {zss : List (List Int)} (h : OwS Q P w v zss) : InS P w v zss := by
  obtain ⟨M, vs, ⟨h1, h2, h3, h4⟩, hc⟩ := h
  have l := hc.le
  have hl := hc.len
  refine ⟨l.2, ?_⟩
  rcases h1.2 with ⟨rfl, hn⟩ | ⟨g, cap, cur, rfl, hb, hg, _⟩
  · exact ⟨none, 0, by rw [hn], fun _ => rfl, .inl (List.length_eq_zero_iff.1 hn)⟩
  · refine ⟨some ⟨g, 0, none⟩, cap, rfl, (fun h => by cases h), .inr ⟨g, 0, rfl, Nat.lt_of_lt_of_le (h2 g rfl) l.1, Nat.lt_of_lt_of_le (h2 g rfl) h3, fun i z hz => ?_⟩⟩
    obtain ⟨u, hu, hi⟩ := hc.get i z hz
    refine ⟨u, ?_, hi⟩
    have hi' : i < zss.length := (List.getElem?_eq_some_iff.1 hz).1
    have := h1.cells (g := g) rfl i u hu
    have e1 : (⟨g, 0, none⟩ : Addr).add i = ⟨g, 0 + i, none⟩ := by
      unfold Addr.add; split
      · subst_vars; rfl
      · rfl
    rwa [e1] at this
theorem InS.shape {P : Nat} {w : World} {v : Value} {zss : List (List Int)} (h : InS P w v zss) : ∃ ad cap, v = .slice ad zss.length cap := by
  obtain ⟨_, ad, cap, h, _⟩ := h
  exact ⟨ad, cap, h⟩
theorem InS.le {P : Nat} {w : World} {v : Value} {zss : List (List Int)} (h : InS P w v zss) : P ≤ w.heap.size := h.1
theorem OwS.le {Q P : Nat} {w : World} {v : Value} {zss : List (List Int)} (h : OwS Q P w v zss) : P ≤ w.heap.size := h.toIn.1
/-- The k-th row. -/
theorem InS.at {P : Nat} {w : World} {ad : Option Addr} {n cap : Nat} {zss : List (List Int)} (h : InS P w (.slice ad n cap) zss) {k : Nat} (hk : k < zss.length) :
    ∃ b off a c z, ad = some ⟨b, off, none⟩ ∧ b < w.heap.size ∧ w.cell? ⟨b, off + k, none⟩ = some (.slice a z.length c) ∧ InI P w (.slice a z.length c) z ∧ zss.drop k = z :: zss.drop (k + 1) := by
  obtain ⟨h0, ad', cap', h1, h2, h3⟩ := h
  simp only [Value.slice.injEq] at h1
  obtain ⟨rfl, _, rfl⟩ := h1
  rcases h3 with rfl | ⟨b, off, h4, h5, h6, h7⟩
  · simp at hk
  · obtain ⟨u, hu, hi⟩ := h7 k zss[k] (by simp [hk])
    obtain ⟨a, c, rfl⟩ := hi.shape
    exact ⟨b, off, a, c, zss[k], h4, h6, hu, hi, List.drop_eq_getElem_cons hk⟩

/-! ### Numbers and marks -/
def nS (zss : List (List Int)) : Nat := (zss.map List.length).sum
def mkS : Int → List (List Int) → List (List Int)
  | _, [] => []
  | k, z :: zs => mkI k z :: mkS (k + z.length) zs
theorem nS_cons (z : List Int) (zs : List (List Int)) : nS (z :: zs) = z.length + nS zs := by simp [nS]
theorem nS_append (a b : List (List Int)) : nS (a ++ b) = nS a + nS b := by simp [nS]
theorem mkS_length : ∀ (k : Int) (zss : List (List Int)), (mkS k zss).length = zss.length
  | _, [] => rfl
  | k, z :: zs => by simp [mkS, mkS_length (k + z.length) zs]
theorem mkS_snoc (z : List Int) : ∀ (k : Int) (a : List (List Int)), mkS k (a ++ [z]) = mkS k a ++ [mkI (k + nS a) z]
  | k, [] => by simp [mkS, nS]
  | k, y :: a => by
    simp only [List.cons_append, mkS, mkS_snoc z (k + y.length) a, nS_cons]
    rw [show k + (y.length : Int) + (nS a : Int) = k + ((y.length + nS a : Nat) : Int) by omega]
theorem mkS_take (zss : List (List Int)) {j : Nat} {z : List Int} {rest : List (List Int)} (k : Int) (h : zss.drop j = z :: rest) : mkS k (zss.take (j + 1)) = mkS k (zss.take j) ++ [mkI (k + nS (zss.take j)) z] ∧ nS (zss.take (j + 1)) = nS (zss.take j) + z.length ∧ zss.take (j + 1) = zss.take j ++ [z] := by
  have hj : j < zss.length := by
    rcases Nat.lt_or_ge j zss.length with h' | h'
    · exact h'
    · rw [List.drop_of_length_le h'] at h; cases h
  have hz : zss[j] = z := by rw [List.drop_eq_getElem_cons hj] at h; exact (List.cons.inj h).1
  have e : zss.take (j + 1) = zss.take j ++ [z] := by rw [List.take_succ_eq_append_getElem hj, hz]
  rw [e]
  exact ⟨mkS_snoc z k _, by rw [nS_append]; simp [nS], rfl⟩
theorem mkS_get (zss : List (List Int)) {j : Nat} {z : List Int} {rest : List (List Int)} (k : Int) (h : zss.drop j = z :: rest) : (mkS k zss).drop j = mkI (k + nS (zss.take j)) z :: (mkS k zss).drop (j + 1) := by
  induction zss generalizing j k with
  | nil => simp at h
  | cons y ys ih =>
    cases j with
    | zero => simp at h; obtain ⟨rfl, _⟩ := h; simp [mkS, nS]
    | succ j =>
      simp only [List.drop_succ_cons] at h
      simp only [mkS, List.drop_succ_cons, List.take_succ_cons, nS_cons]
      rw [ih (k + y.length) h]
      rw [show k + (y.length : Int) + (nS (ys.take j) : Int) = k + ((y.length + nS (ys.take j) : Nat) : Int) by omega]
theorem nS_drop (zss : List (List Int)) (j : Nat) : nS (zss.take j) + nS (zss.drop j) = nS zss := by
  rw [← nS_append, List.take_append_drop]
theorem nS_le {zss : List (List Int)} {z : List Int} (h : z ∈ zss) : z.length ≤ nS zss := by
  obtain ⟨a, b, rfl⟩ := List.append_of_mem h
  rw [nS_append, nS_cons]; omega

/-! ### The helpers -/
def MadeS (w : World) (zss : List (List Int)) (e : Ending) (w' : World) : Prop := ∃ v, e = .returned v ∧ OwS w.heap.size w'.heap.size w' v zss ∧ Below w.heap.size w w'
def MarkS (Q P : Nat) (w : World) (v : Value) (zss : List (List Int)) (k : Int) (e : Ending) (w' : World) : Prop := e = .returned (.int .i64 (k + (nS zss : Int))) ∧ OwS Q P w' v (mkS k zss) ∧ Mid Q P w w'

/-- The first k rows are written, those behind are nil. -/
def rowMix (vs : List Value) (n : Nat) : List Value := vs ++ List.replicate (n - vs.length) (.slice none 0 0)
theorem rowMix_set {vs : List Value} {n k : Nat} (hk : vs.length = k) (hn : k < n) (v : Value) : (rowMix vs n).set k v = rowMix (vs ++ [v]) n := by
  subst hk
  unfold rowMix
  rw [show n - vs.length = (n - (vs ++ [v]).length) + 1 by simp; omega, List.replicate_succ, List.set_append_right _ _ (Nat.le_refl _), Nat.sub_self, List.set_cons_zero]
  simp
theorem rowMix_cell {wr : World} {B g n k : Nat} {vs : List Value} (hown : wr.ownsRow B 24 1 (.slice (some ⟨g, 0, none⟩) n n) n (rowMix vs n)) (hk : vs.length = k) (hn : k < n) :
    wr.cell? ⟨g, k, none⟩ = some (.slice none 0 0) ∧ wr.frozen? ⟨g, k, none⟩ = false := by
  refine ⟨?_, hown.frozenAt k⟩
  have hx : (rowMix vs n)[k]? = some (.slice none 0 0) := by
    unfold rowMix
    rw [List.getElem?_append_right (by omega), List.getElem?_replicate, if_pos (by omega)]
  have := hown.cells (g := g) rfl k (.slice none 0 0) hx
  have e1 : (⟨g, 0, none⟩ : Addr).add k = ⟨g, k, none⟩ := by unfold Addr.add; split <;> simp_all
  rwa [e1] at this

end Go.Proofs.Ytafoenoilcgjdaa

/- Lists of lists of integers: compared, marked, held, weighed. -/
namespace Go.Proofs.Ytafoenoilcgjdaa
open Go.RowKit

end Go.Proofs.Ytafoenoilcgjdaa

/- sameInts and big, which the laws call. -/
namespace Go.Proofs.Ytafoenoilcgjdaa
open Go.RowKit

end Go.Proofs.Ytafoenoilcgjdaa

