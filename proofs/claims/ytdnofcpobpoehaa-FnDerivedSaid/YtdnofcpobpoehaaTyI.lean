/- Values that a law copies, compares and marks: lists of integers. In..: it reads so, below a block; Ow..: rows of one's own, within blocks. -/
import Derived.Test.YtdnofcpobpoehaaBas
namespace Go.Proofs.Ytdnofcpobpoehaa
open Go.RowKit

/-- Blocks outside [Q, P) are as they were. -/
structure Mid (Q P : Nat) (w w' : World) : Prop where
  os : w'.os = w.os
  tape : w'.tape = w.tape
  output : w'.output = w.output
  size : w.heap.size ≤ w'.heap.size
  block : ∀ k, k < w.heap.size → (k < Q ∨ P ≤ k) → w'.heap[k]? = w.heap[k]?
theorem Mid.refl (Q P : Nat) (w : World) : Mid Q P w w := ⟨rfl, rfl, rfl, Nat.le_refl _, fun _ _ _ => rfl⟩
theorem Mid.trans {Q P : Nat} {a b c : World} (h : Mid Q P a b) (k : Mid Q P b c) : Mid Q P a c :=
  ⟨k.os.trans h.os, k.tape.trans h.tape, k.output.trans h.output, Nat.le_trans h.size k.size, fun i hi hr => (k.block i (Nat.lt_of_lt_of_le hi h.size) hr).trans (h.block i hi hr)⟩
theorem Mid.wide {Q P Q' P' : Nat} {w w' : World} (h : Mid Q P w w') (hQ : Q' ≤ Q) (hP : P ≤ P') : Mid Q' P' w w' :=
  ⟨h.os, h.tape, h.output, h.size, fun k hk hr => h.block k hk (by omega)⟩
theorem Mid.grown {Q P : Nat} {w w' : World} {r : Option Nat} (hg : w.grownBy w' r) (hr : ∀ k, r = some k → Q ≤ k ∧ k < P) : Mid Q P w w' :=
  ⟨hg.os, hg.tape, hg.output, hg.size, fun k hk h => hg.block k hk (fun e => by have := hr k e.symm; omega)⟩
theorem Mid.ofBelow {Q P : Nat} {w w' : World} (h : Below w.heap.size w w') : Mid Q P w w' := ⟨h.os, h.tape, h.output, h.size, fun k hk _ => h.block k hk⟩
theorem Mid.toBelow {Q P B : Nat} {w w' : World} (h : Mid Q P w w') (hB : B ≤ Q) (hs : B ≤ w.heap.size) : Below B w w' :=
  ⟨h.os, h.tape, h.output, h.size, fun k hk => h.block k (by omega) (by omega)⟩

theorem mid_cell (w : World) (b i : Nat) (v : Value) : Mid b (b + 1) w (w.setCell ⟨b, i, none⟩ v) := Mid.grown (grown_cell w ⟨b, i, none⟩ v) (by rintro k ⟨⟩; exact ⟨Nat.le_refl _, Nat.lt_succ_self _⟩)

theorem own_block {w w' : World} {base : Nat} {e : TypeId} {size : Nat} {v : Value} {n : Nat} {xs : List Value} (h : w.ownsRow base e size v n xs) (hb : ∀ g, v.ownBlock = some g → w'.heap[g]? = w.heap[g]?) : w'.ownsRow base e size v n xs := by
  refine ⟨h.1, ?_⟩
  rcases h.2 with hn | ⟨g, cap, cur, rfl, hb', hgg, rest⟩
  · exact .inl hn
  · exact .inr ⟨g, cap, cur, rfl, hb', by rw [hb g rfl]; exact hgg, rest⟩
theorem own_rebase {w : World} {base base' : Nat} {e : TypeId} {size : Nat} {v : Value} {n : Nat} {xs : List Value} (h : w.ownsRow base e size v n xs) (hb : ∀ g, v.ownBlock = some g → base' ≤ g) : w.ownsRow base' e size v n xs := by
  refine ⟨h.1, ?_⟩
  rcases h.2 with hn | ⟨g, cap, cur, rfl, hb', rest⟩
  · exact .inl hn
  · exact .inr ⟨g, cap, cur, rfl, hb g rfl, rest⟩

theorem ret_int {k : IntKind} {a b : Int} (h : a = b) : Ending.returned (.int k a) = .returned (.int k b) := by rw [h]

/-- A row of one's own within the blocks [Q, P). -/
def OwR (e : TypeId) (size : Nat) (Q P : Nat) (w : World) (v : Value) (n : Nat) (xs : List Value) : Prop :=
  w.ownsRow Q e size v n xs ∧ (∀ g, v.ownBlock = some g → g < P) ∧ P ≤ w.heap.size ∧ Q ≤ P
theorem OwR.below {e : TypeId} {size Q P : Nat} {w w' : World} {v : Value} {n : Nat} {xs : List Value} (h : OwR e size Q P w v n xs) (hb : Below w.heap.size w w') : OwR e size Q P w' v n xs :=
  ⟨own_block h.1 (fun g hg => hb.block g (by have := h.2.1 g hg; have := h.2.2.1; omega)), h.2.1, Nat.le_trans h.2.2.1 hb.size, h.2.2.2⟩
theorem OwR.mid {e : TypeId} {size Q P A B : Nat} {w w' : World} {v : Value} {n : Nat} {xs : List Value} (h : OwR e size Q P w v n xs) (hm : Mid A B w w') (ho : P ≤ A ∨ B ≤ Q) : OwR e size Q P w' v n xs :=
  ⟨own_block h.1 (fun g hg => hm.block g (by have := h.2.1 g hg; have := h.2.2.1; omega) (by have := h.2.1 g hg; have := (h.1.lt g hg).1; omega)), h.2.1, Nat.le_trans h.2.2.1 hm.size, h.2.2.2⟩
theorem OwR.wide {e : TypeId} {size Q P Q' P' : Nat} {w : World} {v : Value} {n : Nat} {xs : List Value} (h : OwR e size Q P w v n xs) (hQ : Q' ≤ Q) (hP : P ≤ P') (hs : P' ≤ w.heap.size) : OwR e size Q' P' w v n xs :=
  ⟨own_rebase h.1 (fun g hg => Nat.le_trans hQ (h.1.lt g hg).1), fun g hg => Nat.lt_of_lt_of_le (h.2.1 g hg) hP, hs, Nat.le_trans hQ (Nat.le_trans h.2.2.2 hP)⟩
theorem OwR.mk {e : TypeId} {size Q : Nat} {w : World} {v : Value} {n : Nat} {xs : List Value} (h : w.ownsRow Q e size v n xs) (hQ : Q ≤ w.heap.size) : OwR e size Q w.heap.size w v n xs :=
  ⟨h, fun g hg => (h.lt g hg).2, Nat.le_refl _, hQ⟩

/-- The slice reads as 'zs' and lies below block B. -/
def InB (B : Nat) (w : World) (ad : Option Addr) (zs : List Int) : Prop :=
  zs = [] ∨ ∃ b off, ad = some ⟨b, off, none⟩ ∧ b < B ∧ b < w.heap.size ∧ ∀ i, i < zs.length → w.cell? ⟨b, off + i, none⟩ = some (.int .i64 (zs.getD i 0))
theorem InB.ints {B : Nat} {w : World} {ad : Option Addr} {zs : List Int} (h : InB B w ad zs) : IsInts w ad zs := by
  rcases h with h | ⟨b, off, h1, _, h2, h3⟩
  · exact .inl h
  · exact .inr ⟨b, off, h1, h2, h3⟩
theorem IsInts.inB {w : World} {ad : Option Addr} {zs : List Int} (h : IsInts w ad zs) {B : Nat} (hB : w.heap.size ≤ B) : InB B w ad zs := by
  rcases h with h | ⟨b, off, h1, h2, h3⟩
  · exact .inl h
  · exact .inr ⟨b, off, h1, Nat.lt_of_lt_of_le h2 hB, h2, h3⟩
theorem InB.below {B : Nat} {w w' : World} {ad : Option Addr} {zs : List Int} (h : InB B w ad zs) (hb : Below B w w') : InB B w' ad zs := by
  rcases h with h | ⟨b, off, h1, h2, h3, h4⟩
  · exact .inl h
  · refine .inr ⟨b, off, h1, h2, Nat.lt_of_lt_of_le h3 hb.size, fun i hi => ?_⟩
    rw [hb.cell (p := ⟨b, off + i, none⟩) h2]
    exact h4 i hi
theorem InB.mono {B C : Nat} {w : World} {ad : Option Addr} {zs : List Int} (h : InB B w ad zs) (hB : B ≤ C) : InB C w ad zs := by
  rcases h with h | ⟨b, off, h1, h2, h3, h4⟩
  · exact .inl h
  · exact .inr ⟨b, off, h1, Nat.lt_of_lt_of_le h2 hB, h3, h4⟩
theorem InB.nil {B : Nat} {w : World} {ad : Option Addr} : InB B w ad [] := .inl rfl

/-! ### Lists of integers -/
def InI (P : Nat) (w : World) (v : Value) (zs : List Int) : Prop := P ≤ w.heap.size ∧ ∃ ad cap, v = .slice ad zs.length cap ∧ InB P w ad zs ∧ (ad = none → cap = 0) ∧ zs.length ≤ cap
def OwI (Q P : Nat) (w : World) (v : Value) (zs : List Int) : Prop := OwR 3 1 Q P w v zs.length (zs.map (Value.int .i64))
theorem InI.below {P : Nat} {w w' : World} {v : Value} {zs : List Int} (h : InI P w v zs) (hb : Below w.heap.size w w') : InI P w' v zs := by
  obtain ⟨h0, ad, cap, rfl, h1, h2⟩ := h
  exact ⟨Nat.le_trans h0 hb.size, ad, cap, rfl, h1.below (hb.mono h0), h2⟩
theorem InI.belowP {P : Nat} {w w' : World} {v : Value} {zs : List Int} (h : InI P w v zs) (hb : Below P w w') : InI P w' v zs := by
  obtain ⟨h0, ad, cap, rfl, h1, h2⟩ := h
  exact ⟨Nat.le_trans h0 hb.size, ad, cap, rfl, h1.below hb, h2⟩
theorem InI.mid {P A B : Nat} {w w' : World} {v : Value} {zs : List Int} (h : InI P w v zs) (hm : Mid A B w w') (hA : P ≤ A) : InI P w' v zs := h.belowP (hm.toBelow hA h.1)
theorem InI.wide {P P' : Nat} {w : World} {v : Value} {zs : List Int} (h : InI P w v zs) (hP : P ≤ P') (hs : P' ≤ w.heap.size) : InI P' w v zs := by
  obtain ⟨h0, ad, cap, rfl, h1, h2⟩ := h
  exact ⟨hs, ad, cap, rfl, h1.mono hP, h2⟩
theorem InI.le {P : Nat} {w : World} {v : Value} {zs : List Int} (h : InI P w v zs) : P ≤ w.heap.size := h.1
theorem OwI.le {Q P : Nat} {w : World} {v : Value} {zs : List Int} (h : OwI Q P w v zs) : P ≤ w.heap.size := h.2.2.1
theorem InI.shape {P : Nat} {w : World} {v : Value} {zs : List Int} (h : InI P w v zs) : ∃ ad cap, v = .slice ad zs.length cap := by
  obtain ⟨_, ad, cap, h, _⟩ := h
  exact ⟨ad, cap, h⟩
theorem OwI.below {Q P : Nat} {w w' : World} {v : Value} {zs : List Int} (h : OwI Q P w v zs) (hb : Below w.heap.size w w') : OwI Q P w' v zs := OwR.below h hb
theorem OwI.mid {Q P A B : Nat} {w w' : World} {v : Value} {zs : List Int} (h : OwI Q P w v zs) (hm : Mid A B w w') (ho : P ≤ A ∨ B ≤ Q) : OwI Q P w' v zs := OwR.mid h hm ho
theorem OwI.wide {Q P Q' P' : Nat} {w : World} {v : Value} {zs : List Int} (h : OwI Q P w v zs) (hQ : Q' ≤ Q) (hP : P ≤ P') (hs : P' ≤ w.heap.size) : OwI Q' P' w v zs := OwR.wide h hQ hP hs
theorem own_cap {w : World} {base size n vc : Nat} {va : Option Addr} {xs : List Value} {e : TypeId} (h : w.ownsRow base e size (.slice va n vc) n xs) : n ≤ vc := by
  rcases h.2 with ⟨h1, _⟩ | ⟨g, cap, cur, h1, _, _, h2, _⟩
  · simp only [Value.slice.injEq] at h1
    obtain ⟨_, rfl, rfl⟩ := h1
    exact Nat.le_refl _
  · simp only [Value.slice.injEq] at h1
    obtain ⟨_, _, rfl⟩ := h1
    exact h2
theorem OwI.toIn {Q P : Nat} {w : World} {v : Value} {zs : List Int} (h : OwI Q P w v zs) : InI P w v zs := by
  obtain ⟨h1, h2, h3, h4⟩ := h
  obtain ⟨va, vc, rfl⟩ := own_shape h1
  obtain ⟨hi, hn, hnil⟩ := own_ints h1
  refine ⟨h3, va, vc, rfl, ?_, hnil, own_cap h1⟩
  rcases hi with hi | ⟨b, off, rfl, hb, hc⟩
  · exact .inl hi
  · exact .inr ⟨b, off, rfl, h2 b rfl, hb, hc⟩
theorem owI_nil (Q : Nat) (w : World) (hQ : Q ≤ w.heap.size) : OwI Q w.heap.size w (.slice none 0 0) [] := OwR.mk (World.ownsRow_nil _ _ _ _) hQ
theorem owI_mk {Q : Nat} {w : World} {v : Value} {n : Nat} {zs : List Int} (h : w.ownsRow Q 3 1 v n (zs.map (Value.int .i64))) (hQ : Q ≤ w.heap.size) : OwI Q w.heap.size w v zs := by
  have hn : zs.length = n := by have := h.1; simpa using this
  subst hn
  exact OwR.mk h hQ
theorem InI.of {w : World} {ad : Option Addr} {cap : Nat} {zs : List Int} (h : IsInts w ad zs) (hn : ad = none → cap = 0) (hc : zs.length ≤ cap) : InI w.heap.size w (.slice ad zs.length cap) zs :=
  ⟨Nat.le_refl _, ad, cap, rfl, h.inB (Nat.le_refl _), hn, hc⟩

/-- What a copy, and what a marked one, is. -/
def MadeI (w : World) (zs : List Int) (e : Ending) (w' : World) : Prop := ∃ v, e = .returned v ∧ OwI w.heap.size w'.heap.size w' v zs ∧ Below w.heap.size w w'
def mkI (k : Int) (zs : List Int) : List Int := marks k zs.length
theorem mkI_length (k : Int) (zs : List Int) : (mkI k zs).length = zs.length := marks_length _ _
def MarkI (Q P : Nat) (w : World) (v : Value) (zs : List Int) (k : Int) (e : Ending) (w' : World) : Prop := e = .returned (.int .i64 (k + (zs.length : Int))) ∧ OwI Q P w' v (mkI k zs) ∧ Mid Q P w w'

theorem toI_any {P : Nat} {w : World} {v : Value} {zs : List Int} (h : InI P w v zs) (hl : zs.length ≤ 17592186044416) :
    Calls Try.prog 26 #[v] w (MadeI w zs) := by
  obtain ⟨h0, ad, cap, rfl, h1, h2⟩ := h
  refine (toIntS_any ad _ cap zs rfl hl w h1.ints).mono ?_
  rintro e w' ⟨g, rfl, hg, hown, hb⟩
  exact ⟨_, rfl, OwR.mk hown hb.size, hb⟩

theorem eqI_any {P P' : Nat} {w : World} {v v' : Value} {zs : List Int} (h : InI P w v zs) (h' : InI P' w v' zs) (hl : zs.length ≤ 17592186044416) :
    Calls Try.prog 28 #[v, v'] w fun e w' => e = .returned (.bool true) ∧ Below w.heap.size w w' := by
  obtain ⟨h0, ad, cap, rfl, h1, h2⟩ := h
  obtain ⟨h0', ad', cap', rfl, h1', h2'⟩ := h'
  exact eqIntS_same ad ad' _ _ cap cap' zs rfl rfl (by omega) w h1.ints h1'.ints

theorem markI_any {Q P : Nat} {w : World} {v : Value} {zs : List Int} {k : Int} (h : OwI Q P w v zs) (hk0 : 0 ≤ k) (hk1 : k ≤ 17592186044416) (hl : zs.length ≤ 17592186044416) :
    Calls Try.prog 37 #[v, .int .i64 k] w (MarkI Q P w v zs k) := by
  obtain ⟨h1, h2, h3, h4⟩ := h
  obtain ⟨va, vc, rfl⟩ := own_shape h1
  refine (markIntS_any Q va _ vc zs k hk0 hk1 hl w h1).mono ?_
  rintro e w' ⟨rfl, hown, hg⟩
  refine ⟨rfl, ?_, Mid.grown hg (fun q hq => ⟨(h1.lt q hq).1, h2 q hq⟩)⟩
  unfold OwI
  rw [mkI_length]
  exact ⟨hown, h2, Nat.le_trans h3 hg.size, h4⟩

theorem heldI_any {P : Nat} {w : World} {v : Value} {zs : List Int} {k : Int} (h : InI P w v (mkI k zs)) (hk0 : 0 ≤ k) (hk1 : k ≤ 17592186044416) (hl : zs.length ≤ 17592186044416) :
    Calls Try.prog 88 #[v, .int .i64 k] w fun e w' => e = .returned (.int .i64 (k + (zs.length : Int))) ∧ w = w' := by
  obtain ⟨h0, ad, cap, rfl, h1, h2⟩ := h
  rw [mkI_length]
  exact heldIntS_any ad _ cap k hk0 hk1 hl w h1.ints

/-- How much is left of a bound. -/
def szV (n : Nat) (left : Int) : Int := if (n : Int) ≤ left then left - n else -1
theorem szI_any {P : Nat} {w : World} {v : Value} {zs : List Int} {left : Int} (h : InI P w v zs) (h0 : 0 ≤ left) (h1 : left ≤ 1048576) (hl : zs.length ≤ maxLen) :
    Calls Try.prog 65 #[v, .int .i64 left] w fun e w' => e = .returned (.int .i64 (szV zs.length left)) ∧ w = w' := by
  obtain ⟨_, ad, cap, rfl, _, _⟩ := h
  unfold maxLen at hl
  generalize zs.length = n at hl
  by_cases hn : (n : Int) ≤ left
  · have e1 : szV n left = left - n := by simp [szV, hn]
    rw [e1]
    clear e1
    go_enter Try.func65, Try.ntmps65
    go_wp2
    go_ret
    exact ⟨rfl, rfl⟩
  · have e1 : szV n left = -1 := by simp [szV, hn]
    rw [e1]
    clear e1
    go_enter Try.func65, Try.ntmps65
    go_wp2
    go_ret
    exact ⟨rfl, rfl⟩

/-- What a law's shell tells of a slice that came in. -/
theorem inI_of_row {w : World} {a : Option Addr} {len cap : Nat} {zs : List Int}
    (h : (a = none ∧ len = 0 ∧ cap = 0 ∧ zs = []) ∨ ∃ x, a = some x ∧ len ≤ cap ∧ cap ≤ maxLen ∧ zs.length = cap ∧ (∀ i, i < zs.length → w.cell? (x.add i) = some (.int .i64 (zs.getD i 0))) ∧ ∀ n ∈ zs, (Lit.int .i64 n).wf = true) :
    InI w.heap.size w (.slice a len cap) (zs.take len) ∧ (zs.take len).length = len ∧ len ≤ maxLen := by
  obtain ⟨h1, h2, h3⟩ := ints_of_row h
  refine ⟨?_, h2, h3⟩
  have := InI.of (cap := cap) h1 (by
    rintro rfl
    rcases h with ⟨_, _, h, _⟩ | ⟨x, h, _⟩
    · exact h
    · cases h) (by
    rw [h2]
    rcases h with ⟨_, h, _⟩ | ⟨x, _, h, _⟩
    · omega
    · exact h)
  rwa [h2] at this

end Go.Proofs.Ytdnofcpobpoehaa

/- Proofs: three lists of integers; what the laws' helpers do with them. -/
namespace Go.Proofs.Ytdnofcpobpoehaa
open Go.RowKit

/-- Three values lie in block b, which may be written. -/
def B3 (w : World) (b : Nat) (x y z : Value) : Prop := w.cell? ⟨b, 0, none⟩ = some x ∧ w.cell? ⟨b, 1, none⟩ = some y ∧ w.cell? ⟨b, 2, none⟩ = some z ∧ ∀ i, w.frozen? ⟨b, i, none⟩ = false
theorem b3_new (w : World) (x y z : Value) (t : TypeId) : B3 (w.alloc (.cells #[x, y, z] t)) w.heap.size x y z := by
  refine ⟨?_, ?_, ?_, fun _ => World.frozen?_alloc_at _ _ _ _ rfl⟩ <;> (rw [World.cell?_alloc_at _ _ _ _ rfl]; rfl)
theorem B3.lt {w : World} {b : Nat} {x y z : Value} (h : B3 w b x y z) : b < w.heap.size := World.block_lt_of_cell? w _ h.1
theorem B3.below {w w' : World} {b : Nat} {x y z : Value} (h : B3 w b x y z) (hb : Below w.heap.size w w') : B3 w' b x y z := by
  have hl := h.lt
  refine ⟨?_, ?_, ?_, fun i => ?_⟩
  · rw [hb.cell (p := ⟨b, 0, none⟩) hl]; exact h.1
  · rw [hb.cell (p := ⟨b, 1, none⟩) hl]; exact h.2.1
  · rw [hb.cell (p := ⟨b, 2, none⟩) hl]; exact h.2.2.1
  · rw [hb.frozen (p := ⟨b, i, none⟩) hl]; exact h.2.2.2 i
theorem B3.belowB {w w' : World} {b B : Nat} {x y z : Value} (h : B3 w b x y z) (hb : Below B w w') (hl : b < B) : B3 w' b x y z := by
  refine ⟨?_, ?_, ?_, fun i => ?_⟩
  · rw [hb.cell (p := ⟨b, 0, none⟩) hl]; exact h.1
  · rw [hb.cell (p := ⟨b, 1, none⟩) hl]; exact h.2.1
  · rw [hb.cell (p := ⟨b, 2, none⟩) hl]; exact h.2.2.1
  · rw [hb.frozen (p := ⟨b, i, none⟩) hl]; exact h.2.2.2 i
theorem B3.mid {w w' : World} {b Q P : Nat} {x y z : Value} (h : B3 w b x y z) (hm : Mid Q P w w') (ho : b < Q ∨ P ≤ b) : B3 w' b x y z := by
  have hl := h.lt
  have he := hm.block b hl ho
  refine ⟨?_, ?_, ?_, fun i => ?_⟩
  · rw [World.cell?_of_block (a := ⟨b, 0, none⟩) he]; exact h.1
  · rw [World.cell?_of_block (a := ⟨b, 1, none⟩) he]; exact h.2.1
  · rw [World.cell?_of_block (a := ⟨b, 2, none⟩) he]; exact h.2.2.1
  · rw [World.frozen?_of_block (a := ⟨b, i, none⟩) he]; exact h.2.2.2 i
theorem B3.other {w : World} {b : Nat} {x y z : Value} (h : B3 w b x y z) (a : Addr) (v : Value) (hne : a.block ≠ b) : B3 (w.setCell a v) b x y z := by
  obtain ⟨c0, c1, c2, hf⟩ := h
  refine ⟨?_, ?_, ?_, fun i => by rw [World.frozen?_setCell]; exact hf i⟩
  · rw [World.cell?_setCell_other _ _ _ _ (fun e => hne (by rw [e]))]; exact c0
  · rw [World.cell?_setCell_other _ _ _ _ (fun e => hne (by rw [e]))]; exact c1
  · rw [World.cell?_setCell_other _ _ _ _ (fun e => hne (by rw [e]))]; exact c2
theorem B3.set0 {w : World} {b : Nat} {x y z : Value} (h : B3 w b x y z) (v : Value) : B3 (w.setCell ⟨b, 0, none⟩ v) b v y z := by
  obtain ⟨c0, c1, c2, hf⟩ := h
  refine ⟨World.cell?_setCell_same _ _ _ c0, ?_, ?_, fun i => by rw [World.frozen?_setCell]; exact hf i⟩
  · rw [World.cell?_setCell_other _ _ _ _ (by simp)]; exact c1
  · rw [World.cell?_setCell_other _ _ _ _ (by simp)]; exact c2
theorem B3.set1 {w : World} {b : Nat} {x y z : Value} (h : B3 w b x y z) (v : Value) : B3 (w.setCell ⟨b, 1, none⟩ v) b x v z := by
  obtain ⟨c0, c1, c2, hf⟩ := h
  refine ⟨?_, World.cell?_setCell_same _ _ _ c1, ?_, fun i => by rw [World.frozen?_setCell]; exact hf i⟩
  · rw [World.cell?_setCell_other _ _ _ _ (by simp)]; exact c0
  · rw [World.cell?_setCell_other _ _ _ _ (by simp)]; exact c2
theorem B3.set2 {w : World} {b : Nat} {x y z : Value} (h : B3 w b x y z) (v : Value) : B3 (w.setCell ⟨b, 2, none⟩ v) b x y v := by
  obtain ⟨c0, c1, c2, hf⟩ := h
  refine ⟨?_, ?_, World.cell?_setCell_same _ _ _ c2, fun i => by rw [World.frozen?_setCell]; exact hf i⟩
  · rw [World.cell?_setCell_other _ _ _ _ (by simp)]; exact c0
  · rw [World.cell?_setCell_other _ _ _ _ (by simp)]; exact c1

/-- The data of a proof. -/
structure PrD where
  c : List Int
  h : List Int
  r : List Int
def PrD.n (p : PrD) : Nat := p.c.length + p.h.length + p.r.length
def mkP (k : Int) (p : PrD) : PrD := ⟨mkI k p.c, mkI (k + p.c.length) p.h, mkI (k + p.c.length + p.h.length) p.r⟩

def InP (P : Nat) (w : World) (v : Value) (p : PrD) : Prop := ∃ a b c, v = .agg #[a, b, c] ∧ InI P w a p.c ∧ InI P w b p.h ∧ InI P w c p.r
def OwP (Q P : Nat) (w : World) (v : Value) (p : PrD) : Prop := ∃ a b c M N, v = .agg #[a, b, c] ∧ OwI Q M w a p.c ∧ OwI M N w b p.h ∧ OwI N P w c p.r
theorem InP.below {P : Nat} {w w' : World} {v : Value} {p : PrD} (h : InP P w v p) (hb : Below w.heap.size w w') : InP P w' v p := by
  obtain ⟨a, b, c, rfl, h1, h2, h3⟩ := h
  exact ⟨a, b, c, rfl, h1.below hb, h2.below hb, h3.below hb⟩
theorem InP.mid {P A B : Nat} {w w' : World} {v : Value} {p : PrD} (h : InP P w v p) (hm : Mid A B w w') (hA : P ≤ A) : InP P w' v p := by
  obtain ⟨a, b, c, rfl, h1, h2, h3⟩ := h
  exact ⟨a, b, c, rfl, h1.mid hm hA, h2.mid hm hA, h3.mid hm hA⟩
theorem OwP.below {Q P : Nat} {w w' : World} {v : Value} {p : PrD} (h : OwP Q P w v p) (hb : Below w.heap.size w w') : OwP Q P w' v p := by
  obtain ⟨a, b, c, M, N, rfl, h1, h2, h3⟩ := h
  exact ⟨a, b, c, M, N, rfl, h1.below hb, h2.below hb, h3.below hb⟩
theorem OwP.mid {Q P A B : Nat} {w w' : World} {v : Value} {p : PrD} (h : OwP Q P w v p) (hm : Mid A B w w') (ho : P ≤ A ∨ B ≤ Q) : OwP Q P w' v p := by
  obtain ⟨a, b, c, M, N, rfl, h1, h2, h3⟩ := h
  have q1 := h1.2.2.2
  have q2 := h2.2.2.2
  have q3 := h3.2.2.2
  exact ⟨a, b, c, M, N, rfl, h1.mid hm (by omega), h2.mid hm (by omega), h3.mid hm (by omega)⟩
theorem OwP.wide {Q P Q' P' : Nat} {w : World} {v : Value} {p : PrD} (h : OwP Q P w v p) (hQ : Q' ≤ Q) (hP : P ≤ P') (hs : P' ≤ w.heap.size := by exact Nat.le_refl _) : OwP Q' P' w v p := by
  obtain ⟨a, b, c, M, N, rfl, h1, h2, h3⟩ := h
  exact ⟨a, b, c, M, N, rfl, h1.wide hQ (Nat.le_refl _) h1.2.2.1, h2, h3.wide (Nat.le_refl _) hP hs⟩
theorem OwP.toIn {Q P : Nat} {w : World} {v : Value} {p : PrD} (h : OwP Q P w v p) : InP P w v p := by
  obtain ⟨a, b, c, M, N, rfl, h1, h2, h3⟩ := h
  have q2 := h2.2.2.2
  have q3 := h3.2.2.2
  have q4 := h3.2.2.1
  exact ⟨a, b, c, rfl, h1.toIn.wide (by omega) q4, h2.toIn.wide (by omega) q4, h3.toIn⟩

theorem InP.le {P : Nat} {w : World} {v : Value} {p : PrD} (h : InP P w v p) : P ≤ w.heap.size := by obtain ⟨a, b, c, rfl, h1, _⟩ := h; exact h1.1
theorem OwP.le {Q P : Nat} {w : World} {v : Value} {p : PrD} (h : OwP Q P w v p) : P ≤ w.heap.size := h.toIn.le

def MadeP (w : World) (p : PrD) (e : Ending) (w' : World) : Prop := ∃ v, e = .returned v ∧ OwP w.heap.size w'.heap.size w' v p ∧ Below w.heap.size w w'
def MarkP (Q P : Nat) (w : World) (p : PrD) (v : Value) (k : Int) (e : Ending) (w' : World) : Prop := e = .returned (.int .i64 (k + (p.n : Int))) ∧ OwP Q P w' v (mkP k p) ∧ Mid Q P w w'

set_option maxRecDepth 100000 in
set_option maxHeartbeats 1600000 in
theorem toP_any {P : Nat} {w : World} {v : Value} {p : PrD} (h : InP P w v p) (hl : p.n ≤ 17592186044416) :
    Calls Try.prog 42 #[v] w (MadeP w p) := by
  obtain ⟨a, b, c, rfl, h1, h2, h3⟩ := h
  obtain ⟨hl1, hl2, hl3⟩ : p.c.length ≤ 17592186044416 ∧ p.h.length ≤ 17592186044416 ∧ p.r.length ≤ 17592186044416 := by unfold PrD.n at hl; omega
  have hP := h1.1
  obtain ⟨a1, a2, rfl⟩ := h1.shape
  obtain ⟨b1, b2, rfl⟩ := h2.shape
  obtain ⟨c1, c2, rfl⟩ := h3.shape
  generalize ha : Value.slice a1 p.c.length a2 = a at h1
  generalize hb : Value.slice b1 p.h.length b2 = b at h2
  generalize hc : Value.slice c1 p.r.length c2 = c at h3
  have hb0 := ba w (.cells #[a, b, c] 58)
  have hb1 := bt hb0 (ba _ (.cells #[.slice none 0 0, .slice none 0 0, .slice none 0 0] 50))
  have hb2 := bt hb1 (ba _ (.cells #[.slice none 0 0, .slice none 0 0, .slice none 0 0] 50))
  have hs1 : (w.alloc (.cells #[a, b, c] 58)).heap.size = w.heap.size + 1 := by simp
  have hs2 : ((w.alloc (.cells #[a, b, c] 58)).alloc (.cells #[.slice none 0 0, .slice none 0 0, .slice none 0 0] 50)).heap.size = w.heap.size + 2 := by simp
  have hX := ((b3_new w a b c 58).below (ba _ (.cells #[.slice none 0 0, .slice none 0 0, .slice none 0 0] 50))).below (ba _ (.cells #[.slice none 0 0, .slice none 0 0, .slice none 0 0] 50))
  have hY := (b3_new (w.alloc (.cells #[a, b, c] 58)) (.slice none 0 0) (.slice none 0 0) (.slice none 0 0) 50).below (ba _ (.cells #[.slice none 0 0, .slice none 0 0, .slice none 0 0] 50))
  have hZ := b3_new ((w.alloc (.cells #[a, b, c] 58)).alloc (.cells #[.slice none 0 0, .slice none 0 0, .slice none 0 0] 50)) (.slice none 0 0) (.slice none 0 0) (.slice none 0 0) 50
  rw [hs1] at hY
  rw [hs2] at hZ
  have I1 := Lib.hid (h1.below hb2)
  have I2 := Lib.hid (h2.below hb2)
  have I3 := Lib.hid (h3.below hb2)
  have HX := Lib.hid hX
  have HY := Lib.hid hY
  have HZ := Lib.hid hZ
  have HB := Lib.hid hb2
  clear hX hY hZ hb0 hb1 hb2 hs1 hs2 h1 h2 h3
  subst ha hb hc
  go_enter Try.func42, Try.ntmps42
  go_wp2_with fail
  refine (toI_any I1.out hl1).mono ?_
  rintro e w1 ⟨v1, rfl, ho1, hb1⟩
  obtain ⟨va, vc, rfl⟩ := own_shape ho1.1
  have I21 := Lib.hid (I2.out.below hb1)
  have I31 := Lib.hid (I3.out.below hb1)
  have HX1 := Lib.hid (HX.out.below hb1)
  have HY1 := Lib.hid (HY.out.below hb1)
  have HZ1 := Lib.hid (HZ.out.below hb1)
  have HB1 := Lib.hid (bt HB.out hb1)
  have HO1 := Lib.hid (ho1.wide (Q' := w.heap.size + 3) (by simp) (Nat.le_refl _) (Nat.le_refl _))
  clear hb1 ho1
  obtain ⟨x0, x1, x2, _⟩ := HX1.out
  obtain ⟨z0, z1, z2, zf⟩ := HZ1.out
  have zf0 := zf 0
  clear zf
  go_wp2_with fail
  clear x0 x1 x2 z0 z1 z2 zf0
  have I22 := Lib.hid (I21.out.belowP ((Below.refl P w1).setCell (p := ⟨w.heap.size + 2, 0, none⟩) (Nat.le_trans hP (Nat.le_add_right _ _)) (.slice va p.c.length vc)))
  have I32 := Lib.hid (I31.out.belowP ((Below.refl P w1).setCell (p := ⟨w.heap.size + 2, 0, none⟩) (Nat.le_trans hP (Nat.le_add_right _ _)) (.slice va p.c.length vc)))
  have HX2 := Lib.hid (HX1.out.other ⟨w.heap.size + 2, 0, none⟩ (.slice va p.c.length vc) (by simp))
  have HY2 := Lib.hid (HY1.out.other ⟨w.heap.size + 2, 0, none⟩ (.slice va p.c.length vc) (by simp))
  have HZ2 := Lib.hid (HZ1.out.set0 (.slice va p.c.length vc))
  have HO2 := Lib.hid (HO1.out.mid (mid_cell w1 (w.heap.size + 2) 0 (.slice va p.c.length vc)) (.inr (Nat.le_refl _)))
  have HB2 := Lib.hid (HB1.out.setCell (p := ⟨w.heap.size + 2, 0, none⟩) (Nat.le_add_right _ _) (.slice va p.c.length vc))
  clear I21 I31 HX1 HY1 HZ1 HO1 HB1
  refine (toI_any I22.out hl2).mono ?_
  rintro e w2 ⟨v2, rfl, ho2, hb2⟩
  obtain ⟨vb, wb, rfl⟩ := own_shape ho2.1
  have I33 := Lib.hid (I32.out.below hb2)
  have HX3 := Lib.hid (HX2.out.below hb2)
  have HY3 := Lib.hid (HY2.out.below hb2)
  have HZ3 := Lib.hid (HZ2.out.below hb2)
  have HO3 := Lib.hid (HO2.out.below hb2)
  have HU3 := Lib.hid (ho2.wide (Q' := w1.heap.size) (by simp) (Nat.le_refl _) (Nat.le_refl _))
  have HB3 := Lib.hid (bt HB2.out hb2)
  clear hb2 ho2 I22 I32 HX2 HY2 HZ2 HO2 HB2
  obtain ⟨x0, x1, x2, _⟩ := HX3.out
  obtain ⟨z0, z1, z2, zf⟩ := HZ3.out
  have zf1 := zf 1
  clear zf
  go_wp2_with fail
  clear x0 x1 x2 z0 z1 z2 zf1
  have I34 := Lib.hid (I33.out.belowP ((Below.refl P w2).setCell (p := ⟨w.heap.size + 2, 1, none⟩) (Nat.le_trans hP (Nat.le_add_right _ _)) (.slice vb p.h.length wb)))
  have HX4 := Lib.hid (HX3.out.other ⟨w.heap.size + 2, 1, none⟩ (.slice vb p.h.length wb) (by simp))
  have HY4 := Lib.hid (HY3.out.other ⟨w.heap.size + 2, 1, none⟩ (.slice vb p.h.length wb) (by simp))
  have HZ4 := Lib.hid (HZ3.out.set1 (.slice vb p.h.length wb))
  have HO4 := Lib.hid (HO3.out.mid (mid_cell w2 (w.heap.size + 2) 1 (.slice vb p.h.length wb)) (.inr (Nat.le_refl _)))
  have HU4 := Lib.hid (HU3.out.mid (mid_cell w2 (w.heap.size + 2) 1 (.slice vb p.h.length wb)) (.inr HO3.out.2.2.2))
  have HB4 := Lib.hid (HB3.out.setCell (p := ⟨w.heap.size + 2, 1, none⟩) (Nat.le_add_right _ _) (.slice vb p.h.length wb))
  have HL4 := Lib.hid HO3.out.2.2.2
  clear I33 HX3 HY3 HZ3 HO3 HU3 HB3
  refine (toI_any I34.out hl3).mono ?_
  rintro e w3 ⟨v3, rfl, ho3, hb3⟩
  obtain ⟨vd, wd, rfl⟩ := own_shape ho3.1
  have HX5 := Lib.hid (HX4.out.below hb3)
  have HY5 := Lib.hid (HY4.out.below hb3)
  have HZ5 := Lib.hid (HZ4.out.below hb3)
  have HO5 := Lib.hid (HO4.out.below hb3)
  have HU5 := Lib.hid (HU4.out.below hb3)
  have HV5 := Lib.hid (ho3.wide (Q' := w2.heap.size) (by simp) (Nat.le_refl _) (Nat.le_refl _))
  have HB5 := Lib.hid (bt HB4.out hb3)
  clear hb3 ho3 I34 HX4 HY4 HZ4 HO4 HU4 HB4
  obtain ⟨y0, y1, y2, yf⟩ := HY5.out
  have yf0 := yf 0
  have yf1 := yf 1
  have yf2 := yf 2
  obtain ⟨z0, z1, z2, zf⟩ := HZ5.out
  have zf2 := zf 2
  clear zf yf
  go_wp2
  (try simp only [Exit.inBlock, Exit.then])
  refine bodyPost_ret (v := .agg #[.slice va p.c.length vc, .slice vb p.h.length wb, .slice vd p.r.length wd]) ?_ rfl ⟨_, rfl, ?_, ?_⟩
  · rw [results_cell_one rfl]; go_simp
  · have M := ((((mid_cell w3 (w.heap.size + 2) 2 (.slice vd p.r.length wd)).wide (Q' := w.heap.size + 1) (P' := w.heap.size + 3) (by omega) (by omega)).trans ((mid_cell _ (w.heap.size + 1) 0 (.slice va p.c.length vc)).wide (by omega) (by omega))).trans ((mid_cell _ (w.heap.size + 1) 1 (.slice vb p.h.length wb)).wide (by omega) (by omega))).trans ((mid_cell _ (w.heap.size + 1) 2 (.slice vd p.r.length wd)).wide (by omega) (by omega))
    have l1 := HO5.out.2.2.2
    have l2 := HU5.out.2.2.2
    have o5 := HO5.out.mid M (.inr (Nat.le_refl _))
    have u5 := HU5.out.mid M (.inr l1)
    have v5 := HV5.out.mid M (.inr (Nat.le_trans l1 l2))
    exact ⟨_, _, _, _, _, rfl, o5.wide (Nat.le_add_right _ _) (Nat.le_refl _) o5.2.2.1, u5, v5.wide (Nat.le_refl _) (by simp) (Nat.le_refl _)⟩
  · exact ((((HB5.out.setCell (show w.heap.size ≤ w.heap.size + 1 + 1 by omega) _).setCell (Nat.le_add_right _ _) _).setCell (Nat.le_add_right _ _) _).setCell (Nat.le_add_right _ _) _)

set_option maxRecDepth 100000 in
set_option maxHeartbeats 1600000 in
theorem eqP_any {P P' : Nat} {w : World} {v v' : Value} {p : PrD} (h : InP P w v p) (h' : InP P' w v' p) (hl : p.n ≤ 17592186044416) :
    Calls Try.prog 35 #[v, v'] w fun e w' => e = .returned (.bool true) ∧ Below w.heap.size w w' := by
  obtain ⟨a, b, c, rfl, h1, h2, h3⟩ := h
  obtain ⟨a', b', c', rfl, h1', h2', h3'⟩ := h'
  obtain ⟨hl1, hl2, hl3⟩ : p.c.length ≤ 17592186044416 ∧ p.h.length ≤ 17592186044416 ∧ p.r.length ≤ 17592186044416 := by unfold PrD.n at hl; omega
  have hb1 := ba w (.cells #[a, b, c] 50)
  have hb2 := bt hb1 (ba _ (.cells #[a', b', c'] 50))
  have hs1 : (w.alloc (.cells #[a, b, c] 50)).heap.size = w.heap.size + 1 := by simp
  have hX := (b3_new w a b c 50).below (ba _ (.cells #[a', b', c'] 50))
  have hY := b3_new (w.alloc (.cells #[a, b, c] 50)) a' b' c' 50
  rw [hs1] at hY
  have J1 := Lib.hid (h1.below hb2)
  have J2 := Lib.hid (h2.below hb2)
  have J3 := Lib.hid (h3.below hb2)
  have K1 := Lib.hid (h1'.below hb2)
  have K2 := Lib.hid (h2'.below hb2)
  have K3 := Lib.hid (h3'.below hb2)
  obtain ⟨a1, a2, rfl⟩ := h1.shape
  obtain ⟨b1, b2, rfl⟩ := h2.shape
  obtain ⟨c1, c2, rfl⟩ := h3.shape
  obtain ⟨a3, a4, rfl⟩ := h1'.shape
  obtain ⟨b3, b4, rfl⟩ := h2'.shape
  obtain ⟨c3, c4, rfl⟩ := h3'.shape
  have HX := Lib.hid hX
  have HY := Lib.hid hY
  have HB := Lib.hid hb2
  clear hX hY hb1 hb2 hs1 h1 h2 h3 h1' h2' h3'
  obtain ⟨x0, _, _, _⟩ := HX.out
  obtain ⟨y0, _, _, _⟩ := HY.out
  go_enter Try.func35, Try.ntmps35
  go_wp2_with fail
  refine (eqI_any J1.out K1.out hl1).mono ?_
  rintro e w1 ⟨rfl, hb1⟩
  have J21 := Lib.hid (J2.out.below hb1)
  have J31 := Lib.hid (J3.out.below hb1)
  have K21 := Lib.hid (K2.out.below hb1)
  have K31 := Lib.hid (K3.out.below hb1)
  have HX1 := Lib.hid (HX.out.below hb1)
  have HY1 := Lib.hid (HY.out.below hb1)
  have HB1 := Lib.hid (bt HB.out hb1)
  clear hb1 x0 y0
  obtain ⟨_, x1, _, _⟩ := HX1.out
  obtain ⟨_, y1, _, _⟩ := HY1.out
  go_wp2_with fail
  refine (eqI_any J21.out K21.out hl2).mono ?_
  rintro e w2 ⟨rfl, hb2⟩
  have J32 := Lib.hid (J31.out.below hb2)
  have K32 := Lib.hid (K31.out.below hb2)
  have HX2 := Lib.hid (HX1.out.below hb2)
  have HY2 := Lib.hid (HY1.out.below hb2)
  have HB2 := Lib.hid (bt HB1.out hb2)
  clear hb2 x1 y1
  obtain ⟨_, _, x2, _⟩ := HX2.out
  obtain ⟨_, _, y2, _⟩ := HY2.out
  go_wp2_with fail
  refine (eqI_any J32.out K32.out hl3).mono ?_
  rintro e w3 ⟨rfl, hb3⟩
  have HB3 := Lib.hid (bt HB2.out hb3)
  clear hb3 x2 y2
  go_wp2
  go_ret
  exact ⟨rfl, HB3.out⟩

set_option maxRecDepth 100000 in
set_option maxHeartbeats 1600000 in
theorem markP_any {Q P : Nat} {w : World} {v : Value} {p : PrD} {k : Int} (h : OwP Q P w v p) (hk0 : 0 ≤ k) (hk1 : k ≤ 8796093022208) (hl : p.n ≤ 8796093022208) :
    Calls Try.prog 38 #[v, .int .i64 k] w (MarkP Q P w p v k) := by
  obtain ⟨a, b, c, M, N, rfl, h1, h2, h3⟩ := h
  have q1 := h1.2.2.2
  have q2 := h2.2.2.2
  have q3 := h3.2.2.2
  have q4 := h3.2.2.1
  obtain ⟨hl1, hl2, hl3, hl4⟩ : p.c.length ≤ 8796093022208 ∧ p.h.length ≤ 8796093022208 ∧ p.r.length ≤ 8796093022208 ∧ p.c.length + p.h.length ≤ 8796093022208 := by unfold PrD.n at hl; omega
  have hal := ba w (.cells #[a, b, c] 50)
  have HX := Lib.hid (b3_new w a b c 50)
  have HM := Lib.hid (Mid.ofBelow (Q := Q) (P := P) hal)
  have J1 := Lib.hid (h1.below hal)
  have J2 := Lib.hid (h2.below hal)
  have J3 := Lib.hid (h3.below hal)
  obtain ⟨a1, a2, rfl⟩ := own_shape h1.1
  obtain ⟨b1, b2, rfl⟩ := own_shape h2.1
  obtain ⟨c1, c2, rfl⟩ := own_shape h3.1
  clear hal h1 h2 h3
  obtain ⟨x0, _, _, _⟩ := HX.out
  go_enter Try.func38, Try.ntmps38
  go_wp2_with fail
  refine (markI_any J1.out hk0 (by omega) (by omega)).mono ?_
  rintro e w1 ⟨rfl, ho1, hm1⟩
  have HX1 := Lib.hid (HX.out.mid hm1 (.inr (by omega)))
  have O1 := Lib.hid ho1
  have J21 := Lib.hid (J2.out.mid hm1 (.inr (Nat.le_refl _)))
  have J31 := Lib.hid (J3.out.mid hm1 (.inr q2))
  have HM1 := Lib.hid (HM.out.trans (hm1.wide (Nat.le_refl _) (Nat.le_trans q2 q3)))
  clear hm1 ho1 x0
  obtain ⟨_, x1, _, _⟩ := HX1.out
  go_wp2_with fail
  refine (markI_any J21.out (by omega) (by omega) (by omega)).mono ?_
  rintro e w2 ⟨rfl, ho2, hm2⟩
  have HX2 := Lib.hid (HX1.out.mid hm2 (.inr (by omega)))
  have O2 := Lib.hid (And.intro (O1.out.mid hm2 (.inl (Nat.le_refl _))) ho2)
  have J32 := Lib.hid (J31.out.mid hm2 (.inr (Nat.le_refl _)))
  have HM2 := Lib.hid (HM1.out.trans (hm2.wide q1 q3))
  clear hm2 ho2 x1
  obtain ⟨_, _, x2, _⟩ := HX2.out
  go_wp2_with fail
  refine (markI_any J32.out (by omega) (by omega) (by omega)).mono ?_
  rintro e w3 ⟨rfl, ho3, hm3⟩
  have O3 := Lib.hid (And.intro (O2.out.1.mid hm3 (.inl q2)) (And.intro (O2.out.2.mid hm3 (.inl (Nat.le_refl _))) ho3))
  have HM3 := Lib.hid (HM2.out.trans (hm3.wide (Nat.le_trans q1 q2) (Nat.le_refl _)))
  clear hm3 ho3 x2
  go_wp2
  go_ret
  refine ⟨?_, ?_, HM3.out⟩
  · exact ret_int (by unfold PrD.n; omega)
  · exact ⟨_, _, _, M, N, rfl, O3.out.1, O3.out.2.1, O3.out.2.2⟩

set_option maxRecDepth 100000 in
set_option maxHeartbeats 1600000 in
theorem heldP_any {P : Nat} {w : World} {v : Value} {p : PrD} {k : Int} (h : InP P w v (mkP k p)) (hk0 : 0 ≤ k) (hk1 : k ≤ 8796093022208) (hl : p.n ≤ 8796093022208) :
    Calls Try.prog 39 #[v, .int .i64 k] w fun e w' => e = .returned (.int .i64 (k + (p.n : Int))) ∧ Below w.heap.size w w' := by
  obtain ⟨a, b, c, rfl, h1, h2, h3⟩ := h
  obtain ⟨hl1, hl2, hl3, hl4⟩ : p.c.length ≤ 8796093022208 ∧ p.h.length ≤ 8796093022208 ∧ p.r.length ≤ 8796093022208 ∧ p.c.length + p.h.length ≤ 8796093022208 := by unfold PrD.n at hl; omega
  have hal := ba w (.cells #[a, b, c] 50)
  have HX := Lib.hid (b3_new w a b c 50)
  have J1 := Lib.hid (h1.below hal)
  have J2 := Lib.hid (h2.below hal)
  have J3 := Lib.hid (h3.below hal)
  have HB := Lib.hid hal
  obtain ⟨a1, a2, rfl⟩ := h1.shape
  obtain ⟨b1, b2, rfl⟩ := h2.shape
  obtain ⟨c1, c2, rfl⟩ := h3.shape
  clear hal h1 h2 h3
  obtain ⟨x0, x1, x2, _⟩ := HX.out
  have en : (p.n : Int) = p.c.length + p.h.length + p.r.length := by unfold PrD.n; omega
  have HN := Lib.hid en
  clear en
  go_enter Try.func39, Try.ntmps39
  go_wp2_with fail
  refine (heldI_any J1.out hk0 (by omega) (by omega)).mono ?_
  rintro e w' ⟨rfl, rfl⟩
  go_wp2_with fail
  refine (heldI_any J2.out (by omega) (by omega) (by omega)).mono ?_
  rintro e w' ⟨rfl, rfl⟩
  go_wp2_with fail
  refine (heldI_any J3.out (by omega) (by omega) (by omega)).mono ?_
  rintro e w' ⟨rfl, rfl⟩
  go_wp2
  go_ret
  exact ⟨ret_int (by have := HN.out; omega), HB.out⟩

set_option maxRecDepth 100000 in
set_option maxHeartbeats 1600000 in
theorem szP_any {P : Nat} {w : World} {v : Value} {p : PrD} {left : Int} (h : InP P w v p) (h0 : 0 ≤ left) (h1 : left ≤ 1048576) (hl1 : p.c.length ≤ maxLen) (hl2 : p.h.length ≤ maxLen) (hl3 : p.r.length ≤ maxLen) :
    Calls Try.prog 40 #[v, .int .i64 left] w fun e w' => e = .returned (.int .i64 (szV p.n left)) ∧ Below w.heap.size w w' := by
  obtain ⟨a, b, c, rfl, j1, j2, j3⟩ := h
  have hal := ba w (.cells #[a, b, c] 58)
  have HX := Lib.hid (b3_new w a b c 58)
  have J1 := Lib.hid (j1.below hal)
  have J2 := Lib.hid (j2.below hal)
  have J3 := Lib.hid (j3.below hal)
  have HB := Lib.hid hal
  obtain ⟨a1, a2, rfl⟩ := j1.shape
  obtain ⟨b1, b2, rfl⟩ := j2.shape
  obtain ⟨c1, c2, rfl⟩ := j3.shape
  clear hal j1 j2 j3
  obtain ⟨x0, x1, x2, _⟩ := HX.out
  by_cases q1 : (p.c.length : Int) ≤ left
  · have e1 : szV p.c.length left = left - p.c.length := by simp [szV, q1]
    by_cases q2 : (p.h.length : Int) ≤ left - p.c.length
    · have e2 : szV p.h.length (left - p.c.length) = left - p.c.length - p.h.length := by simp [szV, q2]
      by_cases q3 : (p.r.length : Int) ≤ left - p.c.length - p.h.length
      · have e3 : szV p.r.length (left - p.c.length - p.h.length) = left - p.c.length - p.h.length - p.r.length := by simp [szV, q3]
        have e4 : szV p.n left = left - p.c.length - p.h.length - p.r.length := by
          unfold szV PrD.n; rw [if_pos (by omega)]; omega
        rw [e4]
        have E1 := Lib.hid e1
        have E2 := Lib.hid e2
        have E3 := Lib.hid e3
        clear e1 e2 e3 e4
        go_enter Try.func40, Try.ntmps40
        go_wp2_with fail
        refine (szI_any J1.out h0 h1 hl1).mono ?_
        rw [E1.out]
        rintro e w' ⟨rfl, rfl⟩
        go_wp2_with fail
        refine (szI_any J2.out (by omega) (by omega) hl2).mono ?_
        rw [E2.out]
        rintro e w' ⟨rfl, rfl⟩
        go_wp2_with fail
        refine (szI_any J3.out (by omega) (by omega) hl3).mono ?_
        rw [E3.out]
        rintro e w' ⟨rfl, rfl⟩
        go_wp2
        go_ret
        exact ⟨rfl, HB.out⟩
      · have e3 : szV p.r.length (left - p.c.length - p.h.length) = -1 := by simp [szV, q3]
        have e4 : szV p.n left = -1 := by unfold szV PrD.n; rw [if_neg (by omega)]
        rw [e4]
        have E1 := Lib.hid e1
        have E2 := Lib.hid e2
        have E3 := Lib.hid e3
        clear e1 e2 e3 e4
        go_enter Try.func40, Try.ntmps40
        go_wp2_with fail
        refine (szI_any J1.out h0 h1 hl1).mono ?_
        rw [E1.out]
        rintro e w' ⟨rfl, rfl⟩
        go_wp2_with fail
        refine (szI_any J2.out (by omega) (by omega) hl2).mono ?_
        rw [E2.out]
        rintro e w' ⟨rfl, rfl⟩
        go_wp2_with fail
        refine (szI_any J3.out (by omega) (by omega) hl3).mono ?_
        rw [E3.out]
        rintro e w' ⟨rfl, rfl⟩
        go_wp2
        go_ret
        exact ⟨rfl, HB.out⟩
    · have e2 : szV p.h.length (left - p.c.length) = -1 := by simp [szV, q2]
      have e4 : szV p.n left = -1 := by unfold szV PrD.n; rw [if_neg (by omega)]
      rw [e4]
      have E1 := Lib.hid e1
      have E2 := Lib.hid e2
      clear e1 e2 e4
      go_enter Try.func40, Try.ntmps40
      go_wp2_with fail
      refine (szI_any J1.out h0 h1 hl1).mono ?_
      rw [E1.out]
      rintro e w' ⟨rfl, rfl⟩
      go_wp2_with fail
      refine (szI_any J2.out (by omega) (by omega) hl2).mono ?_
      rw [E2.out]
      rintro e w' ⟨rfl, rfl⟩
      go_wp2
      go_ret
      exact ⟨rfl, HB.out⟩
  · have e1 : szV p.c.length left = -1 := by simp [szV, q1]
    have e4 : szV p.n left = -1 := by unfold szV PrD.n; rw [if_neg (by omega)]
    rw [e4]
    have E1 := Lib.hid e1
    clear e1 e4
    go_enter Try.func40, Try.ntmps40
    go_wp2_with fail
    refine (szI_any J1.out h0 h1 hl1).mono ?_
    rw [E1.out]
    rintro e w' ⟨rfl, rfl⟩
    go_wp2
    go_ret
    exact ⟨rfl, HB.out⟩

end Go.Proofs.Ytdnofcpobpoehaa

/- Lists of ciphertexts; what the laws' helpers do with them. A list is told flat: A and B of each. -/
namespace Go.Proofs.Ytdnofcpobpoehaa
open Go.RowKit

/-! ### The data -/
def InC (P : Nat) (w : World) (v : Value) (zs : List Int) : Prop := P ≤ w.heap.size ∧ ∃ ad n cap, v = .slice ad n cap ∧ zs.length = n * 2 ∧ InB P w ad zs ∧ (ad = none → cap = 0)
theorem InC.below {P : Nat} {w w' : World} {v : Value} {zs : List Int} (h : InC P w v zs) (hb : Below w.heap.size w w') : InC P w' v zs := by
  obtain ⟨h0, ad, n, cap, rfl, hn, h1, h2⟩ := h
  exact ⟨Nat.le_trans h0 hb.size, ad, n, cap, rfl, hn, h1.below (hb.mono h0), h2⟩
theorem InC.mid {P A B : Nat} {w w' : World} {v : Value} {zs : List Int} (h : InC P w v zs) (hm : Mid A B w w') (hA : P ≤ A) : InC P w' v zs := by
  obtain ⟨h0, ad, n, cap, rfl, hn, h1, h2⟩ := h
  exact ⟨Nat.le_trans h0 hm.size, ad, n, cap, rfl, hn, h1.below (hm.toBelow hA h0), h2⟩
theorem InC.le {P : Nat} {w : World} {v : Value} {zs : List Int} (h : InC P w v zs) : P ≤ w.heap.size := h.1
theorem made_twoC (z : Value) (m : Nat) : (madeCells #[z, z] m).toList = List.replicate m z := by
  rw [List.eq_replicate_iff]
  refine ⟨by simp [madeCells], ?_⟩
  intro v hv
  simp [madeCells] at hv
  obtain ⟨i, _, rfl⟩ := hv
  have : i % 2 = 0 ∨ i % 2 = 1 := by omega
  rcases this with h | h <;> simp [h]

end Go.Proofs.Ytdnofcpobpoehaa

/- Lists of lists of integers; what the laws' helpers do with them. -/
namespace Go.Proofs.Ytdnofcpobpoehaa
open Go.RowKit

theorem Try.infoSL : (Try.prog.info? 24).map (fun i => (i.zero, i.size, i.bytes)) = some (some (.slice none 0 0), 1, 24) := by kernel_rfl

/-- Rows of one's own, one behind the other in memory, from block Q to block P. -/
def ChI (P : Nat) (w : World) : Nat → List Value → List (List Int) → Prop
  | Q, [], [] => Q ≤ P ∧ P ≤ w.heap.size
  | Q, v :: vs, z :: zs => ∃ M, OwI Q M w v z ∧ ChI P w M vs zs
  | _, _, _ => False
theorem ChI.len {P : Nat} {w : World} : ∀ {Q : Nat} {vs : List Value} {zss : List (List Int)}, ChI P w Q vs zss → vs.length = zss.length
  | _, [], [], _ => rfl
  | _, v :: vs, z :: zs, h => by obtain ⟨M, _, h⟩ := h; simp [ChI.len h]
theorem ChI.le {P : Nat} {w : World} : ∀ {Q : Nat} {vs : List Value} {zss : List (List Int)}, ChI P w Q vs zss → Q ≤ P ∧ P ≤ w.heap.size
  | _, [], [], h => h
  | _, v :: vs, z :: zs, h => by obtain ⟨M, h1, h⟩ := h; have := ChI.le h; have := h1.2.2.2; omega
theorem ChI.below {P : Nat} {w w' : World} (hb : Below w.heap.size w w') : ∀ {Q : Nat} {vs : List Value} {zss : List (List Int)}, ChI P w Q vs zss → ChI P w' Q vs zss
  | _, [], [], h => ⟨h.1, Nat.le_trans h.2 hb.size⟩
  | _, v :: vs, z :: zs, h => by obtain ⟨M, h1, h⟩ := h; exact ⟨M, h1.below hb, ChI.below hb h⟩
theorem ChI.mid {P A B : Nat} {w w' : World} (hm : Mid A B w w') : ∀ {Q : Nat} {vs : List Value} {zss : List (List Int)}, ChI P w Q vs zss → (P ≤ A ∨ B ≤ Q) → ChI P w' Q vs zss
  | _, [], [], h, _ => ⟨h.1, Nat.le_trans h.2 hm.size⟩
  | _, v :: vs, z :: zs, h, ho => by
    obtain ⟨M, h1, h⟩ := h
    have l := ChI.le h
    have q := h1.2.2.2
    exact ⟨M, h1.mid hm (by omega), ChI.mid hm h (by omega)⟩
theorem ChI.snoc {P R : Nat} {w : World} {v : Value} {z : List Int} (ho : OwI P R w v z) : ∀ {Q : Nat} {vs : List Value} {zss : List (List Int)}, ChI P w Q vs zss → ChI R w Q (vs ++ [v]) (zss ++ [z])
  | Q, [], [], h => ⟨R, ho.wide h.1 (Nat.le_refl _) ho.2.2.1, Nat.le_refl _, ho.2.2.1⟩
  | _, v :: vs, z :: zs, h => by obtain ⟨M, h1, h⟩ := h; exact ⟨M, h1, ChI.snoc ho h⟩
theorem ChI.get {P : Nat} {w : World} : ∀ {Q : Nat} {vs : List Value} {zss : List (List Int)}, ChI P w Q vs zss → ∀ (i : Nat) z, zss[i]? = some z → ∃ u, vs[i]? = some u ∧ InI P w u z
  | _, [], [], _, i, z, hz => by simp at hz
  | _, v :: vs, z :: zs, h, 0, z', hz => by
    obtain ⟨M, h1, h⟩ := h
    simp at hz
    subst hz
    exact ⟨v, by simp, h1.toIn.wide (ChI.le h).1 (ChI.le h).2⟩
  | _, v :: vs, z :: zs, h, i + 1, z', hz => by
    obtain ⟨M, h1, h⟩ := h
    simp at hz
    obtain ⟨u, hu, hi⟩ := ChI.get h i z' hz
    exact ⟨u, by simpa using hu, hi⟩
theorem ChI.wide {P R : Nat} {w : World} (hP : P ≤ R) (hR : R ≤ w.heap.size) : ∀ {Q : Nat} {vs : List Value} {zss : List (List Int)}, ChI P w Q vs zss → ChI R w Q vs zss
  | _, [], [], h => ⟨Nat.le_trans h.1 hP, hR⟩
  | _, v :: vs, z :: zs, h => by obtain ⟨M, h1, h⟩ := h; exact ⟨M, h1, ChI.wide hP hR h⟩

def InS (P : Nat) (w : World) (v : Value) (zss : List (List Int)) : Prop := P ≤ w.heap.size ∧ ∃ ad cap, v = .slice ad zss.length cap ∧ (ad = none → cap = 0) ∧
  (zss = [] ∨ ∃ b off, ad = some ⟨b, off, none⟩ ∧ b < P ∧ b < w.heap.size ∧ ∀ (i : Nat) z, zss[i]? = some z → ∃ u, w.cell? ⟨b, off + i, none⟩ = some u ∧ InI P w u z)
def OwS (Q P : Nat) (w : World) (v : Value) (zss : List (List Int)) : Prop := ∃ M vs, OwR 24 1 Q M w v zss.length vs ∧ ChI P w M vs zss
theorem InS.belowP {P : Nat} {w w' : World} {v : Value} {zss : List (List Int)} (h : InS P w v zss) (hb : Below P w w') : InS P w' v zss := by
  obtain ⟨h0, ad, cap, rfl, h1, h2⟩ := h
  refine ⟨Nat.le_trans h0 hb.size, ad, cap, rfl, h1, ?_⟩
  rcases h2 with h2 | ⟨b, off, h2, h3, h4, h5⟩
  · exact .inl h2
  · refine .inr ⟨b, off, h2, h3, Nat.lt_of_lt_of_le h4 hb.size, fun i z hz => ?_⟩
    obtain ⟨u, hu, hi⟩ := h5 i z hz
    exact ⟨u, by rw [hb.cell (p := ⟨b, off + i, none⟩) h3]; exact hu, hi.belowP hb⟩
theorem InS.below {P : Nat} {w w' : World} {v : Value} {zss : List (List Int)} (h : InS P w v zss) (hb : Below w.heap.size w w') : InS P w' v zss := h.belowP (hb.mono h.1)
theorem InS.mid {P A B : Nat} {w w' : World} {v : Value} {zss : List (List Int)} (h : InS P w v zss) (hm : Mid A B w w') (hA : P ≤ A) : InS P w' v zss := h.belowP (hm.toBelow hA h.1)
theorem OwS.below {Q P : Nat} {w w' : World} {v : Value} {zss : List (List Int)} (h : OwS Q P w v zss) (hb : Below w.heap.size w w') : OwS Q P w' v zss := by
  obtain ⟨M, vs, h1, h2⟩ := h
  exact ⟨M, vs, h1.below hb, h2.below hb⟩
theorem OwS.mid {Q P A B : Nat} {w w' : World} {v : Value} {zss : List (List Int)} (h : OwS Q P w v zss) (hm : Mid A B w w') (ho : P ≤ A ∨ B ≤ Q) : OwS Q P w' v zss := by
  obtain ⟨M, vs, h1, h2⟩ := h
  have l := h2.le
  have q := h1.2.2.2
  exact ⟨M, vs, h1.mid hm (by omega), h2.mid hm (by omega)⟩
theorem OwS.toIn {Q P : Nat} {w : World} {v : Value} {zss : List (List Int)} (h : OwS Q P w v zss) : InS P w v zss := by
  obtain ⟨M, vs, ⟨h1, h2, h3, h4⟩, hc⟩ := h
  have l := hc.le
  have hl := hc.len
  refine ⟨l.2, ?_⟩
  rcases h1.2 with ⟨rfl, hn⟩ | ⟨g, cap, cur, rfl, hb, hg, _⟩
  · exact ⟨none, 0, by rw [hn], fun _ => rfl, .inl (List.length_eq_zero_iff.1 hn)⟩
  · refine ⟨some ⟨g, 0, none⟩, cap, rfl, (fun h => by cases h), .inr ⟨g, 0, rfl, Nat.lt_of_lt_of_le (h2 g rfl) l.1, Nat.lt_of_lt_of_le (h2 g rfl) h3, fun i z hz => ?_⟩⟩
    obtain ⟨u, hu, hi⟩ := hc.get i z hz
    refine ⟨u, ?_, hi⟩
    have hi' : i < zss.length := (List.getElem?_eq_some_iff.1 hz).1
    have := h1.cells (g := g) rfl i u hu
    have e1 : (⟨g, 0, none⟩ : Addr).add i = ⟨g, 0 + i, none⟩ := by
      unfold Addr.add; split
      · subst_vars; rfl
      · rfl
    rwa [e1] at this
theorem InS.shape {P : Nat} {w : World} {v : Value} {zss : List (List Int)} (h : InS P w v zss) : ∃ ad cap, v = .slice ad zss.length cap := by
  obtain ⟨_, ad, cap, h, _⟩ := h
  exact ⟨ad, cap, h⟩
theorem InS.le {P : Nat} {w : World} {v : Value} {zss : List (List Int)} (h : InS P w v zss) : P ≤ w.heap.size := h.1
theorem OwS.le {Q P : Nat} {w : World} {v : Value} {zss : List (List Int)} (h : OwS Q P w v zss) : P ≤ w.heap.size := h.toIn.1
/-- The k-th row. -/
theorem InS.at {P : Nat} {w : World} {ad : Option Addr} {n cap : Nat} {zss : List (List Int)} (h : InS P w (.slice ad n cap) zss) {k : Nat} (hk : k < zss.length) :
    ∃ b off a c z, ad = some ⟨b, off, none⟩ ∧ b < w.heap.size ∧ w.cell? ⟨b, off + k, none⟩ = some (.slice a z.length c) ∧ InI P w (.slice a z.length c) z ∧ zss.drop k = z :: zss.drop (k + 1) := by
  obtain ⟨h0, ad', cap', h1, h2, h3⟩ := h
  simp only [Value.slice.injEq] at h1
  obtain ⟨rfl, _, rfl⟩ := h1
  rcases h3 with rfl | ⟨b, off, h4, h5, h6, h7⟩
  · simp at hk
  · obtain ⟨u, hu, hi⟩ := h7 k zss[k] (by simp [hk])
    obtain ⟨a, c, rfl⟩ := hi.shape
    exact ⟨b, off, a, c, zss[k], h4, h6, hu, hi, List.drop_eq_getElem_cons hk⟩

/-! ### Numbers and marks -/
def nS (zss : List (List Int)) : Nat := (zss.map List.length).sum
def mkS : Int → List (List Int) → List (List Int)
  | _, [] => []
  | k, z :: zs => mkI k z :: mkS (k + z.length) zs
theorem nS_cons (z : List Int) (zs : List (List Int)) : nS (z :: zs) = z.length + nS zs := by simp [nS]
theorem nS_append (a b : List (List Int)) : nS (a ++ b) = nS a + nS b := by simp [nS]
theorem mkS_length : ∀ (k : Int) (zss : List (List Int)), (mkS k zss).length = zss.length
  | _, [] => rfl
  | k, z :: zs => by simp [mkS, mkS_length (k + z.length) zs]
theorem mkS_snoc (z : List Int) : ∀ (k : Int) (a : List (List Int)), mkS k (a ++ [z]) = mkS k a ++ [mkI (k + nS a) z]
  | k, [] => by simp [mkS, nS]
  | k, y :: a => by
    simp only [List.cons_append, mkS, mkS_snoc z (k + y.length) a, nS_cons]
    rw [show k + (y.length : Int) + (nS a : Int) = k + ((y.length + nS a : Nat) : Int) by omega]
theorem mkS_take (zss : List (List Int)) {j : Nat} {z : List Int} {rest : List (List Int)} (k : Int) (h : zss.drop j = z :: rest) : mkS k (zss.take (j + 1)) = mkS k (zss.take j) ++ [mkI (k + nS (zss.take j)) z] ∧ nS (zss.take (j + 1)) = nS (zss.take j) + z.length ∧ zss.take (j + 1) = zss.take j ++ [z] := by
  have hj : j < zss.length := by
    rcases Nat.lt_or_ge j zss.length with h' | h'
    · exact h'
    · rw [List.drop_of_length_le h'] at h; cases h
  have hz : zss[j] = z := by rw [List.drop_eq_getElem_cons hj] at h; exact (List.cons.inj h).1
  have e : zss.take (j + 1) = zss.take j ++ [z] := by rw [List.take_succ_eq_append_getElem hj, hz]
  rw [e]
  exact ⟨mkS_snoc z k _, by rw [nS_append]; simp [nS], rfl⟩
theorem mkS_get (zss : List (List Int)) {j : Nat} {z : List Int} {rest : List (List Int)} (k : Int) (h : zss.drop j = z :: rest) : (mkS k zss).drop j = mkI (k + nS (zss.take j)) z :: (mkS k zss).drop (j + 1) := by
  induction zss generalizing j k with
  | nil => simp at h
  | cons y ys ih =>
    cases j with
    | zero => simp at h; obtain ⟨rfl, _⟩ := h; simp [mkS, nS]
    | succ j =>
      simp only [List.drop_succ_cons] at h
      simp only [mkS, List.drop_succ_cons, List.take_succ_cons, nS_cons]
      rw [ih (k + y.length) h]
      rw [show k + (y.length : Int) + (nS (ys.take j) : Int) = k + ((y.length + nS (ys.take j) : Nat) : Int) by omega]
theorem nS_drop (zss : List (List Int)) (j : Nat) : nS (zss.take j) + nS (zss.drop j) = nS zss := by
  rw [← nS_append, List.take_append_drop]
theorem nS_le {zss : List (List Int)} {z : List Int} (h : z ∈ zss) : z.length ≤ nS zss := by
  obtain ⟨a, b, rfl⟩ := List.append_of_mem h
  rw [nS_append, nS_cons]; omega

/-! ### The helpers -/
def MadeS (w : World) (zss : List (List Int)) (e : Ending) (w' : World) : Prop := ∃ v, e = .returned v ∧ OwS w.heap.size w'.heap.size w' v zss ∧ Below w.heap.size w w'
def MarkS (Q P : Nat) (w : World) (v : Value) (zss : List (List Int)) (k : Int) (e : Ending) (w' : World) : Prop := e = .returned (.int .i64 (k + (nS zss : Int))) ∧ OwS Q P w' v (mkS k zss) ∧ Mid Q P w w'

/-- The first k rows are written, those behind are nil. -/
def rowMix (vs : List Value) (n : Nat) : List Value := vs ++ List.replicate (n - vs.length) (.slice none 0 0)
theorem rowMix_set {vs : List Value} {n k : Nat} (hk : vs.length = k) (hn : k < n) (v : Value) : (rowMix vs n).set k v = rowMix (vs ++ [v]) n := by
  subst hk
  unfold rowMix
  rw [show n - vs.length = (n - (vs ++ [v]).length) + 1 by simp; omega, List.replicate_succ, List.set_append_right _ _ (Nat.le_refl _), Nat.sub_self, List.set_cons_zero]
  simp
theorem rowMix_cell {wr : World} {B g n k : Nat} {vs : List Value} (hown : wr.ownsRow B 24 1 (.slice (some ⟨g, 0, none⟩) n n) n (rowMix vs n)) (hk : vs.length = k) (hn : k < n) :
    wr.cell? ⟨g, k, none⟩ = some (.slice none 0 0) ∧ wr.frozen? ⟨g, k, none⟩ = false := by
  refine ⟨?_, hown.frozenAt k⟩
  have hx : (rowMix vs n)[k]? = some (.slice none 0 0) := by
    unfold rowMix
    rw [List.getElem?_append_right (by omega), List.getElem?_replicate, if_pos (by omega)]
  have := hown.cells (g := g) rfl k (.slice none 0 0) hx
  have e1 : (⟨g, 0, none⟩ : Addr).add k = ⟨g, k, none⟩ := by unfold Addr.add; split <;> simp_all
  rwa [e1] at this

end Go.Proofs.Ytdnofcpobpoehaa

/- Lists of lists of integers: compared, marked, held, weighed. -/
namespace Go.Proofs.Ytdnofcpobpoehaa
open Go.RowKit

end Go.Proofs.Ytdnofcpobpoehaa

/- sameInts and big, which the laws call. -/
namespace Go.Proofs.Ytdnofcpobpoehaa
open Go.RowKit

theorem sameInts_same (ad ad' : Option Addr) (n n' cap cap' : Nat) (zs : List Int) (hn : zs.length = n) (hn' : zs.length = n') (hl : n ≤ 1152921504606846976) (w : World) (hz : IsInts w ad zs) (hz' : IsInts w ad' zs) :
    Calls Try.prog 48 #[.slice ad n cap, .slice ad' n' cap'] w fun e w' => e = .returned (.bool true) ∧ Below w.heap.size w w' := by
  obtain rfl : n = n' := by omega
  have HN := Lib.hid hn
  clear hn hn'
  go_enter Try.func48, Try.ntmps48
  go_wp2
  go_loopw [13] (fun K wr => ∃ k : Nat, k ≤ n ∧ K = .int .i64 k ∧ Below w.heap.size w wr) (fun K _ => n - (intOf K).toNat)
  case atStart => exact ⟨0, Nat.zero_le _, rfl, Below.refl _ _⟩
  case round =>
    obtain ⟨k, hk, rfl, hbel⟩ := hrel
    by_cases hkn : k < n
    · obtain ⟨b, off, z, rfl, hb, hc, hd⟩ := (below_ints hz hbel).at (k := k) (by have := HN.out; omega)
      obtain ⟨b', off', z', rfl, hb', hc', hd'⟩ := (below_ints hz' hbel).at (k := k) (by have := HN.out; omega)
      obtain rfl : z = z' := by rw [hd] at hd'; exact (List.cons.inj hd').1
      have HB := Lib.hid hbel
      clear hbel hd hd'
      go_wp2
      go_quiet (fail)
      go_wp2
      go_roundw
      case rel => exact ⟨k + 1, by omega, by go_num, (by first | exact below_drewN HB.out _ | exact bt HB.out (below_drewN _ _))⟩
      case measure => simp only [intOf]; omega
    · have HB := Lib.hid hbel
      clear hbel
      go_wp2
      go_ret
      exact ⟨rfl, HB.out⟩

theorem big_yes (a0 a1 : Option Addr) (len0 len1 cap0 cap1 : Nat) (w : World) (s0 : len0 ≤ 140737488351232) (h : 1048576 < (len0 : Int) + len1) :
    Calls Try.prog 44 #[.slice a0 len0 cap0, .slice a1 len1 cap1] w fun e w' => e = .returned (.bool true) ∧ w = w' := by
  by_cases h0 : 1048576 < (len0 : Int)
  · go_enter Try.func44, Try.ntmps44
    go_wp2
    go_ret
    exact ⟨rfl, rfl⟩
  · have h1 : (1048576 : Int) - len0 < len1 := by omega
    go_enter Try.func44, Try.ntmps44
    go_wp2
    go_ret
    exact ⟨rfl, rfl⟩
theorem big_no (a0 a1 : Option Addr) (len0 len1 cap0 cap1 : Nat) (w : World) (h : (len0 : Int) + len1 ≤ 1048576) :
    Calls Try.prog 44 #[.slice a0 len0 cap0, .slice a1 len1 cap1] w fun e w' => e = .returned (.bool false) ∧ w = w' := by
  have h0 : ¬ 1048576 < (len0 : Int) := by omega
  have h1 : ¬ (1048576 : Int) - len0 < len1 := by omega
  go_enter Try.func44, Try.ntmps44
  go_wp2
  go_ret
  exact ⟨rfl, rfl⟩

end Go.Proofs.Ytdnofcpobpoehaa

